import PyProof.Rows.All
import Wide.All
import OpenK.AllK
import Wide.FinOn
import Lean
import PyProof.EqAt
import PyProof.EqKinds
import PyProof.TupleCall
import PySem.Challenge.RW_flagfloor_k02_what_is_a_laying
noncomputable section
set_option bootstrap.genMatcherCode false
set_option compiler.extract_closed false
local macro_rules | `(tactic| omega) => `(tactic| lia)

set_option Elab.async false
set_option linter.all false
set_option maxRecDepth 100000

namespace L2
open PySem PySem.Spec PyProof.Rows

noncomputable abbrev Key := Sum Int Str
noncomputable def keyIs : Key → Value → Bool
  | .inl k, v => Value.isInt k v
  | .inr x, v => Value.isStrOf x v
noncomputable def keyH (w : World) : Key → Int
  | .inl k => hashInt k
  | .inr x => hashStr w x
theorem keyIs_shape : ∀ {k : Key} {v : Value}, keyIs k v = true → (∃ i t, k = Sum.inl i ∧ v = Value.int i t) ∨ (∃ x t, k = Sum.inr x ∧ v = Value.str x t)
  | .inl i, v, h => by
    obtain ⟨t, e⟩ := Value.isInt_shape (k := i) (v := v) h
    exact .inl ⟨i, t, rfl, e⟩
  | .inr x, v, h => by
    obtain ⟨t, e⟩ := Value.isStrOf_shape (x := x) (v := v) h
    exact .inr ⟨x, t, rfl, e⟩
theorem keyIs_int (i : Int) (t : Tok) : keyIs (.inl i) (.int i t) = true := by simp [keyIs, Value.isInt]
theorem keyIs_str (x : Str) (t : Tok) : keyIs (.inr x) (.str x t) = true := by simp [keyIs, Value.isStrOf]
theorem key_ll (a b : Int) : decide ((Sum.inl a : Key) = Sum.inl b) = (a == b) := by
  by_cases e : a = b
  · subst e; simp
  · have h : ¬ (Sum.inl a : Key) = Sum.inl b := fun q => e (Sum.inl.inj q)
    rw [decide_eq_false h]
    exact (beq_eq_false_iff_ne.mpr e).symm
theorem key_rr (a b : Str) : decide ((Sum.inr a : Key) = Sum.inr b) = decide (a = b) := by
  by_cases e : a = b
  · subst e; simp
  · have h : ¬ (Sum.inr a : Key) = Sum.inr b := fun q => e (Sum.inr.inj q)
    rw [decide_eq_false h, decide_eq_false e]
theorem key_lr (a : Int) (b : Str) : decide ((Sum.inl a : Key) = Sum.inr b) = false := decide_eq_false (fun q => nomatch q)
theorem key_rl (a : Str) (b : Int) : decide ((Sum.inr a : Key) = Sum.inl b) = false := decide_eq_false (fun q => nomatch q)

noncomputable def mixKind (prog : Program) (w : World) : PySem.KeyKind prog w Key where
  is := keyIs
  hash := keyH w
  inj := fun v a b ha hb => by
    rcases keyIs_shape ha with ⟨i, t, rfl, rfl⟩ | ⟨x, t, rfl, rfl⟩
    · rcases keyIs_shape hb with ⟨j, u, rfl, e⟩ | ⟨y, u, rfl, e⟩
      · injection e with e1 _; rw [e1]
      · exact nomatch e
    · rcases keyIs_shape hb with ⟨j, u, rfl, e⟩ | ⟨y, u, rfl, e⟩
      · exact nomatch e
      · injection e with e1 _; rw [e1]
  byValue := fun k v h => by
    rcases keyIs_shape h with ⟨i, t, rfl, rfl⟩ | ⟨x, t, rfl, rfl⟩ <;> rfl
  pyHash := fun hv h => by
    rcases keyIs_shape hv with ⟨i, t, rfl, rfl⟩ | ⟨x, t, rfl, rfl⟩
    · exact wpAny_pyHash_int h
    · exact wpAny_pyHash_str h
  eqBool := fun hu hv h => by
    rcases keyIs_shape hu with ⟨i, t, rfl, rfl⟩ | ⟨x, t, rfl, rfl⟩
    · rcases keyIs_shape hv with ⟨j, u, rfl, rfl⟩ | ⟨y, u, rfl, rfl⟩
      · rw [key_ll] at h; exact wpAny_eqBool_int h
      · rw [key_lr] at h; exact SeqAt.EqAt.int_str i t y u _ _ _ _ h
    · rcases keyIs_shape hv with ⟨j, u, rfl, rfl⟩ | ⟨y, u, rfl, rfl⟩
      · rw [key_rl] at h; exact SeqAt.EqAt.str_int x t j u _ _ _ _ h
      · rw [key_rr] at h; exact wpAny_eqBool_str h
  «strs» := fun k x t v h => by
    rcases keyIs_shape h with ⟨i, u, rfl, e⟩ | ⟨y, u, rfl, e⟩
    · exact nomatch e
    · injection e with e1 _
      subst e1
      cases v <;> rfl

theorem mixKind_int (prog : Program) (w : World) (i : Int) (t : Tok) : (mixKind prog w).is (.inl i) (.int i t) = true := keyIs_int i t
theorem mixKind_str (prog : Program) (w : World) (x : Str) (t : Tok) : (mixKind prog w).is (.inr x) (.str x t) = true := keyIs_str x t
end L2

namespace L2
open PySem PySem.Spec PyProof.Rows

inductive V where
  | non | bl (b : Bool) | int (i : Int) | str (x : Str) | byt (b : Array UInt8) | flt (b : UInt64) | ref (a : Addr) | ty (n : String)
  deriving DecidableEq

noncomputable def RelV : V → Value → Prop
  | .non, u => u = Value.none
  | .bl b, u => u = Value.bool b
  | .int i, u => ∃ t, u = Value.int i t
  | .str x, u => ∃ t, u = Value.str x t
  | .byt b, u => ∃ t, u = Value.bytes b t
  | .flt b, u => ∃ t, u = Value.float b t
  | .ref a, u => u = Value.ref a
  | .ty n, u => u = Value.type n

noncomputable abbrev Vals : List V → List Value → Prop := Paired RelV
theorem Vals.length {xs : List V} {us : List Value} (r : Vals xs us) : xs.length = us.length := Paired.length r
theorem Vals.get : ∀ {xs : List V} {us : List Value} {i : Nat} {x : V}, Vals xs us → xs[i]? = some x → ∃ u, us[i]? = some u ∧ RelV x u
  | _, _, _, _, .nil, e => by simp at e
  | _, _, 0, _, .cons r _, e => by simp at e; subst e; exact ⟨_, rfl, r⟩
  | _, _, i + 1, x, .cons _ t, e => by
    obtain ⟨u, h1, h2⟩ := Vals.get (i := i) (x := x) t (by simpa using e)
    exact ⟨u, by simpa using h1, h2⟩
theorem Vals.append : ∀ {xs ys : List V} {us ws : List Value}, Vals xs us → Vals ys ws → Vals (xs ++ ys) (us ++ ws)
  | _, _, _, _, .nil, s => s
  | _, _, _, _, .cons r t, s => .cons r (Vals.append t s)
theorem Vals.take : ∀ {xs : List V} {us : List Value} (n : Nat), Vals xs us → Vals (xs.take n) (us.take n)
  | _, _, 0, _ => .nil
  | _, _, _ + 1, .nil => .nil
  | _, _, n + 1, .cons r t => .cons r (Vals.take n t)
theorem Vals.drop : ∀ {xs : List V} {us : List Value} (n : Nat), Vals xs us → Vals (xs.drop n) (us.drop n)
  | _, _, 0, r => r
  | _, _, _ + 1, .nil => .nil
  | _, _, n + 1, .cons _ t => Vals.drop n t

noncomputable def RelO : Option V → Option Value → Prop
  | some v, some u => RelV v u
  | none, none => True
  | _, _ => False
noncomputable def KV {κ : Type} : List (κ × V) → List (κ × Value) → Prop := Paired fun (p : κ × V) (q : κ × Value) => p.1 = q.1 ∧ RelV p.2 q.2

noncomputable def kV : Key → V
  | .inl i => .int i
  | .inr x => .str x

inductive HO where
    | lst (xs : List V)
    | tup (xs : List V)
    | dK (kvs : List (Key × V)) | dT (kvs : List (List Key × V))
    | set (S : Int → Bool) (n : Nat)
    | ins (C dx : Addr) (fs : List (Str × V))
    | own (x : Addr)
    | xd (fs : List (Str × V))
    | met (f x : Addr)
    | rng (lo hi : Int)
    | frz (o : Obj) (u : HO)
    | tbl (ps : Array Value)
    | ext (φ : Heap → Prop)

noncomputable abbrev Hp := Addr → Option HO
noncomputable def upd (H : Hp) (a : Addr) (o : HO) : Hp := fun b => if b = a then some o else H b
theorem upd_same {H : Hp} {a : Addr} {o : HO} : upd H a o a = some o := by unfold upd; rw [if_pos rfl]
theorem upd_ne {H : Hp} {a b : Addr} {o : HO} (h : b ≠ a) : upd H a o b = H b := by unfold upd; rw [if_neg h]
theorem upd_upd {H : Hp} {a : Addr} {o u : HO} : upd (upd H a o) a u = upd H a u := by
  funext b; unfold upd; split <;> rfl
theorem ne_of {H : Hp} {a b : Addr} {o u : HO} (h : H a = some o) (h' : H b = some u) (d : o ≠ u) : a ≠ b := by
  intro e; subst e; rw [h] at h'; exact d (Option.some.inj h')
theorem ne_of_none {H : Hp} {a b : Addr} {o : HO} (h : H a = some o) (h' : H b = none) : a ≠ b := by
  intro e; subst e; rw [h] at h'; cases h'

section
variable (P : Program) (w : World)
noncomputable def ObjOk (H : Hp) (h : Heap) (a : Addr) : HO → Prop
  | .lst xs => xs.length ≤ sizeLine ∧ ∃ (its : List Value) (n : Nat), Vals xs its ∧ h.get? a = some { cls := .type "list", data := .seq its.toArray n }
  | .tup xs => xs.length ≤ sizeLine ∧ ∃ its : List Value, Vals xs its ∧ IsTup h a its.toArray
  | .dK kvs => kvs.length ≤ sizeLine ∧ (a == sysModules) = false ∧ ∃ vs, KV kvs vs ∧ h.DictOf (mixKind P w) a vs
  | .dT kvs => kvs.length ≤ sizeLine ∧ (a == sysModules) = false ∧ ∃ xs : List (List Key × Addr × Value),
      Paired (fun (p : List Key × V) (q : List Key × Addr × Value) => p.1 = q.1 ∧ H q.2.1 = some (.tup (p.1.map kV)) ∧ RelV p.2 q.2.2) kvs xs ∧
      ∃ o es ep, h.get? a = some o ∧ o.ExactDict ∧ o.data = .dict es ep ∧ es.toList = xs.map (entryOfKey (tupleKind (mixKind P w))) ∧ (xs.map (·.1)).Nodup
  | .set S n => h.SetOf (intKind P w) a S n
  | .ins C dx fs => H dx = some (.own a) ∧ fs.length ≤ 1000 ∧ dx ≠ a ∧ h.get? a = some (PySem.W.instObj C dx) ∧
      ∃ mA, h.Ns1 dx mA ∧ (∀ f, RelO (fs.lookup f) (mA f)) ∧ PySem.Within mA (fs.map (·.1))
  | .own _ => ∃ o, h.get? a = some o
  | .xd fs => ∃ mA, h.Ns1 a mA ∧ ∀ f, RelO (fs.lookup f) (mA f)
  | .rng lo hi => ∃ t u v, h.get? a = some { cls := .type "range", data := .fields #[.int lo t, .int hi u, .int 1 v] }
  | .frz o u => h.get? a = some o ∧ ObjOk H h a u
  | .tbl ps => h.get? a = some { cls := .none, data := .fields ps }
  | .met f x => h.get? a = some (PySem.W.methodObj (.ref f) (.ref x))
  | .ext φ => φ h ∧ (∃ o, h.get? a = some o) ∧ ∀ h1 h2 : Heap, φ h1 → (∀ o, h1.get? a = some o → h2.get? a = some o) → φ h2
noncomputable def HOk (H : Hp) (h : Heap) : Prop := ∀ a o, H a = some o → ObjOk P w H h a o
end

section
variable {P : Program} {w : World} {H H' : Hp} {h h' : Heap} {a : Addr} {o : HO}
theorem ObjOk.lt (x : ObjOk P w H h a o) : a < h.objs.size := by
  cases o with
  | lst xs => obtain ⟨_, _, _, _, e⟩ := x; exact Heap.lt_size e
  | tup xs => obtain ⟨_, _, _, p⟩ := x; exact p.lt
  | dK kvs => obtain ⟨_, _, _, _, o, _, _, e, _⟩ := x; exact Heap.lt_size e
  | dT kvs => obtain ⟨_, _, _, _, o, _, _, e, _⟩ := x; exact Heap.lt_size e
  | set S n => obtain ⟨o, _, _, _, e, _⟩ := x; exact Heap.lt_size e
  | ins C dx fs => obtain ⟨_, _, _, e, _⟩ := x; exact Heap.lt_size e
  | own y => obtain ⟨_, e⟩ := x; exact Heap.lt_size e
  | xd fs => obtain ⟨_, ⟨_, _, _, e, _⟩, _⟩ := x; exact Heap.lt_size e
  | rng lo hi => obtain ⟨_, _, _, e⟩ := x; exact Heap.lt_size e
  | frz ob u => obtain ⟨e, _⟩ := x; exact Heap.lt_size e
  | tbl ps => exact Heap.lt_size (show h.get? a = some _ from x)
  | met f y => exact Heap.lt_size (show h.get? a = some _ from x)
  | ext φ => obtain ⟨_, ⟨_, e⟩, _⟩ := x; exact Heap.lt_size e
theorem Paired.mapP {α β : Type} {F G : α → β → Prop} : ∀ {l₁ : List α} {l₂ : List β}, Paired F l₁ l₂ → (∀ a b, F a b → G a b) → Paired G l₁ l₂
  | _, _, .nil, _ => .nil
  | _, _, .cons r t, f => .cons (f _ _ r) (Paired.mapP t f)
theorem Paired.imp' {α β : Type} {F G : α → β → Prop} (f : ∀ a b, F a b → G a b) {l₁ : List α} {l₂ : List β} (r : Paired F l₁ l₂) : Paired G l₁ l₂ := Paired.mapP r f
theorem ObjOk.stay (x : ObjOk P w H h a o) (k : ∀ b u, (b = a ∨ H b = some (.own a)) → h.get? b = some u → h'.get? b = some u)
    (ho : ∀ b, H b = some (.own a) → H' b = some (.own a)) (ht : ∀ b xs, H b = some (.tup xs) → H' b = some (.tup xs)) : ObjOk P w H' h' a o := by
  induction o with
  | lst xs => obtain ⟨z, its, n, r, e⟩ := x; exact ⟨z, its, n, r, k _ _ (.inl rfl) e⟩
  | tup xs => obtain ⟨z, its, r, ob, e, c⟩ := x; exact ⟨z, its, r, ob, k _ _ (.inl rfl) e, c⟩
  | dK kvs => obtain ⟨z, y, vs, r, ob, es, ep, e, c⟩ := x; exact ⟨z, y, vs, r, ob, es, ep, k _ _ (.inl rfl) e, c⟩
  | dT kvs =>
    obtain ⟨z, y, xs, r, ob, es, ep, e, c⟩ := x
    exact ⟨z, y, xs, Paired.mapP r fun p q z => ⟨z.1, ht _ _ z.2.1, z.2.2⟩, ob, es, ep, k _ _ (.inl rfl) e, c⟩
  | set S n => obtain ⟨ob, es, ep, t, e, c⟩ := x; exact ⟨ob, es, ep, t, k _ _ (.inl rfl) e, c⟩
  | ins C dx fs =>
    obtain ⟨d, z, ne, e, mA, ⟨od, es, ep, e2, c⟩, r⟩ := x
    exact ⟨ho _ d, z, ne, k _ _ (.inl rfl) e, mA, ⟨od, es, ep, k _ _ (.inr d) e2, c⟩, r⟩
  | own y => obtain ⟨ob, e⟩ := x; exact ⟨ob, k _ _ (.inl rfl) e⟩
  | xd fs => obtain ⟨mA, ⟨od, es, ep, e, c⟩, r⟩ := x; exact ⟨mA, ⟨od, es, ep, k _ _ (.inl rfl) e, c⟩, r⟩
  | rng lo hi => obtain ⟨t, u, v, e⟩ := x; exact ⟨t, u, v, k _ _ (.inl rfl) e⟩
  | frz ob u ih => obtain ⟨e, q⟩ := x; exact ⟨k _ _ (.inl rfl) e, ih q⟩
  | tbl ps =>
    have e : h.get? a = some { cls := .none, data := .fields ps } := x
    show h'.get? a = some { cls := .none, data := .fields ps }
    exact k a _ (.inl rfl) e
  | met f y =>
    have e : h.get? a = some (PySem.W.methodObj (.ref f) (.ref y)) := x
    show h'.get? a = some (PySem.W.methodObj (.ref f) (.ref y))
    exact k a _ (.inl rfl) e
  | ext φ => obtain ⟨p, ⟨o, e⟩, st⟩ := x; exact ⟨st _ _ p fun o q => k _ _ (.inl rfl) q, ⟨o, k _ _ (.inl rfl) e⟩, st⟩
theorem HOk.lt (x : HOk P w H h) (e : H a = some o) : a < h.objs.size := (x a o e).lt
theorem HOk.fresh (x : HOk P w H h) (e : h.objs.size ≤ a) : H a = none := by
  cases q : H a with
  | none => rfl
  | some u => exact absurd (Nat.lt_of_lt_of_le (x.lt q) e) (Nat.lt_irrefl _)
theorem HOk.kept (x : HOk P w H h) (k : ∀ b u, h.get? b = some u → h'.get? b = some u) : HOk P w H h' := fun a o e =>
  (x a o e).stay (fun b u _ q => k b u q) (fun _ q => q) fun _ _ q => q
theorem HOk.laid (x : HOk P w H h) (k : ∀ b u, h.get? b = some u → h'.get? b = some u) (hp : h.objs.size ≤ a) (new : ObjOk P w (upd H a o) h' a o) : HOk P w (upd H a o) h' := fun b u e => by
  have hn := x.fresh hp
  by_cases hb : b = a
  · subst hb; rw [upd_same] at e; cases e; exact new
  · rw [upd_ne hb] at e
    exact (x b u e).stay (fun c v _ q => k c v q) (fun c q => by rw [upd_ne (ne_of_none q hn)]; exact q) fun c xs q => by rw [upd_ne (ne_of_none q hn)]; exact q
end

noncomputable def Rd (H : Hp) (a : Addr) (u : HO) : Prop := H a = some u ∨ ∃ o, H a = some (.frz o u)
theorem Rd.ok {P : Program} {w : World} {H : Hp} {h : Heap} {a : Addr} {u : HO} (r : Rd H a u) (x : HOk P w H h) : ObjOk P w H h a u := by
  rcases r with r | ⟨o, r⟩
  · exact x a u r
  · obtain ⟨_, q⟩ := x a _ r
    exact q
noncomputable def Mut : Option HO → Prop
  | some (.lst _) => True
  | some (.dK _) => True
  | some (.dT _) => True
  | some (.set _ _) => True
  | some (.ins _ _ _) => True
  | some (.ext _) => True
  | _ => False
section
variable {P : Program} {w : World} {H : Hp} {h h' : Heap} {x e : Addr} {o' : HO}
theorem HOk.write (ok : HOk P w H h) (mu : Mut (H x)) (he : e = x ∨ H e = some (.own x)) (k : ∀ b u, b ≠ e → h.get? b = some u → h'.get? b = some u) (heo : ∃ u, h'.get? e = some u)
    (new : ObjOk P w (upd H x o') h' x o') : HOk P w (upd H x o') h' := fun b u q => by
  have nown : ∀ c y, H c = some (.own y) → c ≠ x := fun c y r z => by subst z; rw [r] at mu; exact mu
  have ntup : ∀ c xs, H c = some (.tup xs) → c ≠ x := fun c xs r z => by subst z; rw [r] at mu; exact mu
  by_cases hb : b = x
  · subst hb; rw [upd_same] at q; cases q; exact new
  · rw [upd_ne hb] at q
    by_cases hbe : b = e
    · have q' : H b = some (.own x) := by
        rcases he with z | z
        · exact absurd (hbe.trans z) hb
        · rw [hbe]; exact z
      rw [q] at q'; cases q'
      obtain ⟨v, hv⟩ := heo
      exact ⟨v, by rw [hbe]; exact hv⟩
    · refine (ok b u q).stay (fun c v hc r => k c v ?_ r) (fun c r => by rw [upd_ne (nown c b r)]; exact r) fun c xs r => by rw [upd_ne (ntup c xs r)]; exact r
      rcases hc with rfl | hc
      · exact hbe
      · rintro rfl
        rcases he with z | z
        · exact nown c b hc z
        · rw [hc] at z; cases z; exact hb rfl
end

structure Un (fs ex : List Addr) (H H' : Hp) (h h' : Heap) : Prop where
  keep : ∀ b o, h.get? b = some o → H b = none → b ∉ fs → b ∉ ex → h'.get? b = some o
  slot : ∀ b o, h.get? b = some o → H b = none → b ∈ fs → b ∉ ex → ∃ sl, h'.get? b = some { o with slots := sl }
  free : ∀ b o, h.get? b = some o → H b = none → b ∉ ex → H' b = none
  there : ∀ b o, h.get? b = some o → b ∉ ex → ∃ o', h'.get? b = some o'
  tups : ∀ b xs, H b = some (.tup xs) → H' b = some (.tup xs)
  frzs : ∀ b o u, H b = some (.frz o u) → H' b = some (.frz o u)
  tbls : ∀ b ps, H b = some (.tbl ps) → ∃ more, H' b = some (.tbl (ps ++ more))
section
variable {fs fs' ex ex' : List Addr} {H H1 H2 : Hp} {h h1 h2 h' : Heap} {a x e : Addr} {o : HO}
theorem Un.any (u : Un fs ex H H1 h h1) {b : Addr} {ob : Obj} (q : h.get? b = some ob) (n : H b = none) (hx : b ∉ ex) : ∃ sl, h1.get? b = some { ob with slots := sl } := by
  by_cases hb : b ∈ fs
  · exact u.slot b ob q n hb hx
  · exact ⟨ob.slots, u.keep b ob q n hb hx⟩
theorem Un.kept (k : ∀ b u, h.get? b = some u → h'.get? b = some u) : Un fs ex H H h h' :=
  ⟨fun b ob q _ _ _ => k b ob q, fun b ob q _ _ _ => ⟨ob.slots, k b ob q⟩, fun _ _ _ n _ => n, fun b ob q _ => ⟨ob, k b ob q⟩, fun _ _ q => q, fun _ _ _ q => q, fun _ ps q => ⟨#[], by rw [q]; simp⟩⟩
theorem Un.refl : Un fs ex H H h h := Un.kept fun _ _ q => q
theorem Un.laid (k : ∀ b u, h.get? b = some u → h'.get? b = some u) (hp : h.objs.size ≤ a) (hn : H a = none) : Un fs ex H (upd H a o) h h' where
  keep := fun b u q _ _ _ => k b u q
  slot := fun b u q _ _ _ => ⟨u.slots, k b u q⟩
  free := fun b u q n _ => by rw [upd_ne (Nat.ne_of_lt (Nat.lt_of_lt_of_le (Heap.lt_size q) hp))]; exact n
  there := fun b u q _ => ⟨u, k b u q⟩
  tups := fun b xs q => by rw [upd_ne (ne_of_none q hn)]; exact q
  frzs := fun b u xs q => by rw [upd_ne (ne_of_none q hn)]; exact q
  tbls := fun b ps q => ⟨#[], by rw [upd_ne (ne_of_none q hn), q]; simp⟩
theorem Un.write (mu : Mut (H x)) (he : e = x ∨ H e = some (.own x)) (k : ∀ b u, b ≠ e → h.get? b = some u → h'.get? b = some u) (heo : ∃ u, h'.get? e = some u) : Un fs ex H (upd H x o) h h' := by
  have hx : ∀ b, H b = none → b ≠ x := fun b n z => by subst z; rw [n] at mu; exact mu
  have hb : ∀ b, H b = none → b ≠ e := fun b n z => by
    subst z
    rcases he with r | r
    · exact hx b n r
    · rw [n] at r; cases r
  have hm : ∀ b u, H b = some u → ¬ Mut (some u) → b ≠ x := fun b u q nm z => by subst z; rw [q] at mu; exact nm mu
  refine ⟨fun b u q n _ _ => k b u (hb b n) q, fun b u q n _ _ => ⟨u.slots, k b u (hb b n) q⟩, fun b u q n _ => by rw [upd_ne (hx b n)]; exact n, fun b u q _ => ?_,
    fun b xs q => by rw [upd_ne (hm b _ q fun z => z)]; exact q, fun b u xs q => by rw [upd_ne (hm b _ q fun z => z)]; exact q, fun b ps q => ⟨#[], by rw [upd_ne (hm b _ q fun z => z), q]; simp⟩⟩
  by_cases hbe : b = e
  · subst hbe; exact heo
  · exact ⟨u, k b u hbe q⟩
end

noncomputable def trk (h : Heap) (H : Hp) : List Addr := (List.range h.objs.size).filter fun a => (H a).isSome
noncomputable def hidT (h : Heap) (H : Hp) : Heap := PySem.W.hideAll h (trk h H)
theorem hidT_size (h : Heap) (H : Hp) : (hidT h H).objs.size = h.objs.size := PySem.W.hideAll_size _ _
theorem hidT_get {h : Heap} {H : Hp} {b : Addr} {o : Obj} (e : h.get? b = some o) (n : H b = none) : (hidT h H).get? b = some o :=
  PySem.W.hideAll_get _ e fun hm => by
    have q : (H b).isSome = true := (List.mem_filter.mp hm).2
    rw [n] at q; simp at q
theorem of_hidT {h : Heap} {H : Hp} {b : Addr} {o : Obj} (e : (hidT h H).get? b = some o) : h.get? b = some o ∧ H b = none := by
  have e' : h.get? b = some o := PySem.W.of_hideAll (trk h H) e
  refine ⟨e', ?_⟩
  cases q : H b with
  | none => rfl
  | some x =>
    have hm : b ∈ trk h H := List.mem_filter.mpr ⟨List.mem_range.mpr (Heap.lt_size e'), by simp [q]⟩
    have z : (hidT h H).get? b = none := PySem.W.hideAll_none (trk h H) hm
    rw [z] at e; cases e

noncomputable def allNews (g h : Heap) (L : Addr) : List (Addr × Obj) := (List.range h.objs.size).filterMap fun a => if a = L ∨ (g.get? a).isSome = true then none else (h.get? a).map fun o => (a, o)
theorem mem_allNews {g h : Heap} {L a : Addr} {o : Obj} (h1 : a ≠ L) (h2 : g.get? a = none) (h3 : h.get? a = some o) : (a, o) ∈ allNews g h L :=
  List.mem_filterMap.mpr ⟨a, List.mem_range.mpr (Heap.lt_size h3), by simp [h1, h2, h3]⟩
theorem of_mem_allNews {g h : Heap} {L : Addr} {p : Addr × Obj} (hp : p ∈ allNews g h L) : p.1 ≠ L ∧ g.get? p.1 = none ∧ h.get? p.1 = some p.2 := by
  obtain ⟨b, _, e⟩ := List.mem_filterMap.mp hp
  split at e
  · cases e
  · rename_i hn
    cases q : h.get? b with
    | none => rw [q] at e; simp at e
    | some u =>
      rw [q] at e
      simp only [Option.map_some, Option.some.injEq] at e
      subst e
      refine ⟨fun z => hn (.inl z), ?_, q⟩
      show g.get? b = none
      cases r : g.get? b with
      | none => rfl
      | some v => exact (hn (.inr (by simp [r]))).elim
noncomputable def rest (g h : Heap) (L d : Addr) : List (Addr × Obj) := (allNews g h L).filter fun p => decide (p.1 ≠ d)
theorem news_all {g h : Heap} {L : Addr} : News g L h (allNews g h L) := fun p hp => let ⟨a, b, c⟩ := of_mem_allNews hp; ⟨c, a, b⟩
end L2

namespace L2
open PySem PySem.Spec PyProof.Rows

structure Mod (K : PySem.W.Frag) (mg : Str → Option Value) (base : Heap) : Prop where
  kin : K.In base
  glob : base.Ns mainGlobals mg
  blt : ∃ mb, base.Ns builtinsNs mb ∧ ∀ x : Str, x ≠ "__name__" → mb x = bootBuiltins x
  nolimit : base.NoLimit

structure Cx where
  prog : Program
  w : World
  K : PySem.W.Frag
  mg : Str → Option Value
  base : Heap
  A : Around
  N : List Str
  s₀ : Shared
  H₀ : Hp
  env : Env
  outer : List Env
  stack : List Env
  ex : List Addr
  fn : Str → Bool
  calm : Bool
  pn : List (Addr × Obj)
  xe : Value → Shared → Prop
noncomputable def frs (l : List Env) : List Addr := l.filterMap (·.frame)
noncomputable abbrev Cx.fs (X : Cx) : List Addr := frs X.outer

noncomputable def Vis (sc : Scope) (x : Str) : Prop := sc.names.lookup x = some .local ∨ sc.names.lookup x = some .cell ∨ sc.names.lookup x = some .free
noncomputable def Loc (sc : Scope) (x : Str) : Prop := sc.names.lookup x = some .local ∨ sc.names.lookup x = some .cell
noncomputable def Look (env : Env) (h : Heap) (m : Str → Option Value) (x : Str) (u : Value) : Prop :=
  (env.kindOf x = some .local ∧ m x = some u) ∨ ((env.kindOf x = some .cell ∨ env.kindOf x = some .free) ∧ ∃ c, env.cells.lookup x = some c ∧ h.IsCell c (some u))

structure Cx.Ok (X : Cx) : Prop where
  mod : Mod X.K X.mg X.base
  kind : X.env.scope.kind = .function
  glob : X.env.globals = mainGlobals
  blt : X.env.builtins = builtinsNs
  above : X.s₀.heap.objs.size ≤ X.env.locals
  inj : ∀ x y c, X.env.cells.lookup x = some c → X.env.cells.lookup y = some c → x = y
  has : ∀ x, (X.env.kindOf x = some .cell ∨ X.env.kindOf x = some .free) → ∃ c, X.env.cells.lookup x = some c
  cab : ∀ x c, X.fn x = true → X.env.cells.lookup x = some c → X.s₀.heap.objs.size ≤ c
  hd : X.calm = true → X.A.handled = none
  frames : X.A.frames = some X.stack
  stk : X.stack = X.outer ∨ (X.stack = X.env :: X.outer ∧ X.env.frame = some X.env.locals)
  exf : ∀ b ∈ X.ex, b ≠ X.env.locals ∧ ∀ x c, X.env.cells.lookup x = some c → c ≠ b
  bs : ∀ b o, X.base.get? b = some o → X.s₀.heap.get? b = some o ∧ X.H₀ b = none
  bsz : X.base.objs.size ≤ X.s₀.heap.objs.size
  noex : ∀ b o, X.base.get? b = some o → b ∉ X.ex
  exfs : ∀ b ∈ X.ex, b ∉ X.fs
  funs : X.s₀.heap.FunFrames X.base X.outer
  frf : ∀ b ∈ X.fs, X.H₀ b = none

structure Inv (X : Cx) (pins : List (Addr × Obj)) (σ : List (Option V)) (H : Hp) (s : Shared) : Prop where
  ok : X.Ok
  os : s.os = X.s₀.os
  bare : AllBare s.gens
  base : Un X.fs X.ex X.H₀ H X.s₀.heap s.heap
  loc : ∃ m, s.heap.Ns X.env.locals m ∧ ∀ (i : Nat) (x : Str) (v : V), X.N[i]? = some x → σ[i]? = some (some v) → Vis X.env.scope x → ∃ u, RelV v u ∧ Look X.env s.heap m x u
  cell : ∀ x c, X.env.cells.lookup x = some c → ∃ v, s.heap.IsCell c v
  free : H X.env.locals = none
  freeC : ∀ x c, X.env.cells.lookup x = some c → H c = none
  pin : ∀ p ∈ X.pn ++ pins, s.heap.get? p.1 = some p.2 ∧ H p.1 = none ∧ p.1 ≠ X.env.locals ∧ p.1 ∉ X.fs ∧ ∀ v, p.2.data ≠ .cell v
  hok : HOk X.prog X.w H s.heap
  len : σ.length = X.N.length

section
variable {X : Cx} {pins : List (Addr × Obj)} {σ : List (Option V)} {H H' : Hp} {s : Shared} {h' : Heap}

theorem Cx.Ok.nofr (ok : X.Ok) {b : Addr} {o : Obj} (e : X.base.get? b = some o) : b ∉ X.fs := fun hb => by
  have := (ok.funs.mem hb).1
  rw [e] at this; cases this
theorem Inv.bs (I : Inv X pins σ H s) : ∀ b o, X.base.get? b = some o → s.heap.get? b = some o ∧ H b = none := fun b o e =>
  ⟨I.base.keep b o (I.ok.bs b o e).1 (I.ok.bs b o e).2 (I.ok.nofr e) (I.ok.noex b o e), I.base.free b o (I.ok.bs b o e).1 (I.ok.bs b o e).2 (I.ok.noex b o e)⟩
theorem Inv.bk (I : Inv X pins σ H s) : ∀ b o, X.base.get? b = some o → s.heap.get? b = some o := fun b o e => (I.bs b o e).1
theorem Inv.mod (I : Inv X pins σ H s) : Mod X.K X.mg X.base := I.ok.mod
theorem Inv.kIn (I : Inv X pins σ H s) : X.K.In s.heap := I.ok.mod.kin.keeps I.bk
theorem Inv.fr (I : Inv X pins σ H s) : ∃ m, Fr X.base X.env.locals s.heap m :=
  let ⟨m, hn, _⟩ := I.loc
  ⟨m, hn, I.bk, Nat.le_trans I.ok.bsz I.ok.above⟩
theorem Inv.lt (I : Inv X pins σ H s) : X.env.locals < s.heap.objs.size := let ⟨_, hn, _⟩ := I.loc; hn.lt
theorem Inv.sz (I : Inv X pins σ H s) : X.s₀.heap.objs.size ≤ s.heap.objs.size := Nat.le_trans I.ok.above (Nat.le_of_lt I.lt)
theorem Inv.nofs (I : Inv X pins σ H s) {a : Addr} (h : s.heap.objs.size ≤ a) : a ∉ X.fs := fun hb => by
  obtain ⟨_, o, ho, _⟩ := I.ok.funs.mem hb
  exact absurd (Nat.lt_of_lt_of_le (Heap.lt_size ho) (Nat.le_trans I.sz h)) (Nat.lt_irrefl _)
theorem Inv.cne (I : Inv X pins σ H s) : ∀ x c, X.env.cells.lookup x = some c → c ≠ X.env.locals := fun x c e z => by
  obtain ⟨v, o, ho, hd⟩ := I.cell x c e
  obtain ⟨m, ⟨o', es, ep, ho', hd', _⟩, _⟩ := I.loc
  rw [z, ho'] at ho; cases ho; rw [hd'] at hd; cases hd
theorem Inv.funs (I : Inv X pins σ H s) : s.heap.FunFrames X.base X.outer := by
  have all : ∀ (l : List Env), (∀ b ∈ frs l, b ∈ X.fs) → X.s₀.heap.FunFrames X.base l → s.heap.FunFrames X.base l := by
    intro l
    induction l with
    | nil => intro _ _; trivial
    | cons env r ih =>
      intro hs hl
      obtain ⟨hk, ⟨L, o, hf, hn, ho, hd⟩, hr⟩ := hl
      have hL : L ∈ X.fs := hs L (by unfold frs; rw [List.filterMap_cons, hf]; exact List.mem_cons_self)
      obtain ⟨sl, e⟩ := I.base.slot L o ho (I.ok.frf L hL) hL fun z => I.ok.exfs L z hL
      exact ⟨hk, ⟨L, _, hf, hn, e, hd⟩, ih (fun b hb => hs b (by unfold frs; rw [List.filterMap_cons, hf]; exact List.mem_cons_of_mem _ hb)) hr⟩
  exact all X.outer (fun _ hb => hb) I.ok.funs

theorem Inv.stack (I : Inv X pins σ H s) : s.heap.FunFrames X.base X.stack := by
  rcases I.ok.stk with e | ⟨e, hf⟩
  · rw [e]; exact I.funs
  · rw [e]
    obtain ⟨m, hn, _⟩ := I.loc
    refine .cons (by rw [I.ok.kind]; decide) hf hn ?_ I.funs
    exact Heap.get?_none_of_le (Nat.le_trans I.ok.bsz I.ok.above)
theorem Inv.stkSub (I : Inv X pins σ H s) : ∀ b ∈ frs X.stack, b ∈ X.env.locals :: X.fs := fun b hb => by
  rcases I.ok.stk with e | ⟨e, hf⟩
  · rw [e] at hb; exact List.mem_cons_of_mem _ hb
  · rw [e] at hb
    unfold frs at hb
    rw [List.filterMap_cons, hf] at hb
    exact hb
theorem Inv.stkFree (I : Inv X pins σ H s) : ∀ b ∈ frs X.stack, H b = none := fun b hb => by
  rcases List.mem_cons.mp (I.stkSub b hb) with e | hb
  · rw [e]; exact I.free
  · obtain ⟨_, o, ho, _⟩ := I.ok.funs.mem hb
    exact I.base.free b o ho (I.ok.frf b hb) fun z => I.ok.exfs b z hb

theorem Inv.step {g' : Array GenState} {t' : Nat} {d' : Drawn} {ch : List Addr} (I : Inv X pins σ H s)
    (hch : ∀ b ∈ ch, (b ∈ X.ex ∨ X.s₀.heap.objs.size ≤ b) ∧ b ≠ X.env.locals ∧ (∀ x c, X.env.cells.lookup x = some c → c ≠ b) ∧ ∀ p ∈ X.pn ++ pins, p.1 ≠ b)
    (keep : ∀ b o, b ≠ X.env.locals → b ∉ X.fs → b ∉ ch → s.heap.get? b = some o → H b = none → h'.get? b = some o)
    (slot : ∀ b o, b ≠ X.env.locals → b ∈ X.fs → b ∉ ch → s.heap.get? b = some o → H b = none → ∃ sl, h'.get? b = some { o with slots := sl }) (free : ∀ b o, b ∉ ch → s.heap.get? b = some o → H b = none → H' b = none)
    (there : ∀ b o, b ∉ ch → s.heap.get? b = some o → ∃ o', h'.get? b = some o')
    (tups : ∀ b xs, H b = some (.tup xs) → H' b = some (.tup xs)) (frzs : ∀ b o u, H b = some (.frz o u) → H' b = some (.frz o u)) (tbls : ∀ b ps, H b = some (.tbl ps) → ∃ more, H' b = some (.tbl (ps ++ more)))
    (ns : ∀ m, s.heap.Ns X.env.locals m → h'.Ns X.env.locals m) (hok : HOk X.prog X.w H' h') (hg : AllBare g') :
    Inv X pins σ H' { s with heap := h', gens := g', drawn := d', toks := t' } := by
  have neL : ∀ b o, X.s₀.heap.get? b = some o → b ≠ X.env.locals := fun b o e => Nat.ne_of_lt (Nat.lt_of_lt_of_le (Heap.lt_size e) I.ok.above)
  have neC : ∀ b o, X.s₀.heap.get? b = some o → b ∉ X.ex → b ∉ ch := fun b o e hx hb => by
    rcases (hch b hb).1 with z | z
    · exact hx z
    · exact absurd (Nat.lt_of_lt_of_le (Heap.lt_size e) z) (Nat.lt_irrefl _)
  have cellK : ∀ x c, X.env.cells.lookup x = some c → ∀ v, s.heap.IsCell c v → h'.IsCell c v := fun x c e v ⟨o, ho, hd⟩ => by
    have nch : c ∉ ch := fun z => (hch c z).2.2.1 x c e rfl
    by_cases hc : c ∈ X.fs
    · obtain ⟨sl, q⟩ := slot c o (I.cne x c e) hc nch ho (I.freeC x c e)
      exact ⟨_, q, hd⟩
    · exact ⟨o, keep c o (I.cne x c e) hc nch ho (I.freeC x c e), hd⟩
  refine ⟨I.ok, I.os, hg, ⟨fun b o e n hb hx => ?_, fun b o e n hb hx => ?_, fun b o e n hx => ?_, fun b o e hx => ?_, fun b xs e => tups b xs (I.base.tups b xs e), fun b o xs e => frzs b o xs (I.base.frzs b o xs e), fun b ps e => ?_⟩, ?_, fun x c e => ?_, ?_, fun x c e => ?_, fun p hp => ?_, hok, I.len⟩
  · exact keep b o (neL b o e) hb (neC b o e hx) (I.base.keep b o e n hb hx) (I.base.free b o e n hx)
  · obtain ⟨sl, e1⟩ := I.base.slot b o e n hb hx
    obtain ⟨sl', e2⟩ := slot b _ (neL b o e) hb (neC b o e hx) e1 (I.base.free b o e n hx)
    exact ⟨sl', e2⟩
  · obtain ⟨o', e1⟩ := I.base.there b o e hx
    exact free b o' (neC b o e hx) e1 (I.base.free b o e n hx)
  · obtain ⟨o', e1⟩ := I.base.there b o e hx
    exact there b o' (neC b o e hx) e1
  · obtain ⟨m1, e1⟩ := I.base.tbls b ps e
    obtain ⟨m2, e2⟩ := tbls b _ e1
    exact ⟨m1 ++ m2, by rw [e2, Array.append_assoc]⟩
  · obtain ⟨m, hn, hl⟩ := I.loc
    refine ⟨m, ns m hn, fun i x v e1 e2 e3 => ?_⟩
    obtain ⟨u, r, l⟩ := hl i x v e1 e2 e3
    refine ⟨u, r, ?_⟩
    rcases l with l | ⟨k, c, e, z⟩
    · exact .inl l
    · exact .inr ⟨k, c, e, cellK x c e _ z⟩
  · obtain ⟨v, z⟩ := I.cell x c e
    exact ⟨v, cellK x c e v z⟩
  · obtain ⟨m, ⟨o, _, _, ho, _⟩, _⟩ := I.loc
    exact free _ o (fun z => (hch _ z).2.1 rfl) ho I.free
  · obtain ⟨v, o, ho, hd⟩ := I.cell x c e
    exact free c o (fun z => (hch c z).2.2.1 x c e rfl) ho (I.freeC x c e)
  · obtain ⟨e, n, ne, nf, d⟩ := I.pin p hp
    have nch : p.1 ∉ ch := fun z => (hch p.1 z).2.2.2 p hp rfl
    exact ⟨keep p.1 p.2 ne nf nch e n, free p.1 p.2 nch e n, ne, nf, d⟩
theorem Inv.un {t' : Nat} (I : Inv X pins σ H s) (u : Un X.fs [] H H' s.heap h') (hok : HOk X.prog X.w H' h') : Inv X pins σ H' { s with heap := h', toks := t' } := by
  obtain ⟨m, ⟨o, es, ep, ho, r⟩, _⟩ := id I.loc
  obtain ⟨sl, hL⟩ := u.any ho I.free (by simp)
  exact I.step (g' := s.gens) (d' := s.drawn) (ch := []) (fun _ z => nomatch z) (fun b o _ hb _ e n => u.keep b o e n hb (by simp)) (fun b o _ hb _ e n => u.slot b o e n hb (by simp)) (fun b o _ e n => u.free b o e n (by simp)) (fun b o _ e => u.there b o e (by simp)) u.tups u.frzs u.tbls (fun m' hm => by
    obtain ⟨o', es', ep', ho', r'⟩ := hm
    rw [ho] at ho'; cases ho'
    exact ⟨_, es', ep', hL, r'⟩) hok I.bare
theorem Inv.call {g' : Array GenState} {t' : Nat} {d' : Drawn} {ch : List Addr} (I : Inv X pins σ H s) (u : Un (frs X.stack) ch H H' s.heap h') (hok : HOk X.prog X.w H' h') (hg : AllBare g')
    (hch : ∀ b ∈ ch, (b ∈ X.ex ∨ X.s₀.heap.objs.size ≤ b) ∧ b ≠ X.env.locals ∧ (∀ x c, X.env.cells.lookup x = some c → c ≠ b) ∧ ∀ p ∈ X.pn ++ pins, p.1 ≠ b) :
    Inv X pins σ H' { s with heap := h', gens := g', drawn := d', toks := t' } := by
  obtain ⟨m, ⟨o, es, ep, ho, r⟩, _⟩ := id I.loc
  obtain ⟨sl, hL⟩ := u.any ho I.free fun z => (hch _ z).2.1 rfl
  exact I.step (ch := ch) hch (fun b o hL hb hc e n => u.keep b o e n (fun z => (List.mem_cons.mp (I.stkSub b z)).elim hL hb) hc) (fun b o _ _ hc e n => u.any e n hc) (fun b o hc e n => u.free b o e n hc) (fun b o hc e => u.there b o e hc) u.tups u.frzs u.tbls (fun m' hm => by
    obtain ⟨o', es', ep', ho', r'⟩ := hm
    rw [ho] at ho'; cases ho'
    exact ⟨_, es', ep', hL, r'⟩) hok hg
theorem Inv.turned {t' : Nat} {it : Addr} (I : Inv X pins σ H s) (k : ∀ b o, b ≠ it → s.heap.get? b = some o → h'.get? b = some o) (hn : H it = none) (hL : it ≠ X.env.locals)
    (h1 : it ∈ X.ex ∨ X.s₀.heap.objs.size ≤ it) (h2 : ∀ x c, X.env.cells.lookup x = some c → c ≠ it) (h3 : ∀ p ∈ X.pn ++ pins, p.1 ≠ it) : Inv X pins σ H { s with heap := h', toks := t' } := by
  have nit : ∀ b u, H b = some u → b ≠ it := fun b u e z => by rw [z, hn] at e; cases e
  refine I.step (g' := s.gens) (d' := s.drawn) (ch := [it]) (fun b hb => ?_) (fun b o _ _ hc e _ => k b o (fun z => hc (by simp [z])) e) (fun b o _ _ hc e _ => ⟨o.slots, k b o (fun z => hc (by simp [z])) e⟩) (fun _ _ _ _ n => n)
    (fun b o hc e => ⟨o, k b o (fun z => hc (by simp [z])) e⟩) (fun _ _ e => e) (fun _ _ _ e => e) (fun b ps e => ⟨#[], by rw [e]; simp⟩) (fun m hm => ?_) (fun b u e => ?_) I.bare
  · have e : b = it := by simpa using hb
    subst e
    exact ⟨h1, hL, h2, h3⟩
  · obtain ⟨o, es, ep, ho, r⟩ := hm
    exact ⟨o, es, ep, k _ o (Ne.symm hL) ho, r⟩
  · refine (I.hok b u e).stay (fun c v hc q => k c v ?_ q) (fun _ q => q) fun _ _ q => q
    rcases hc with z | z
    · rw [z]; exact nit b u e
    · exact nit c _ z
theorem Inv.tok (I : Inv X pins σ H s) (t : Nat) : Inv X pins σ H { s with toks := t } := I.un (h' := s.heap) (t' := t) Un.refl I.hok
theorem Inv.kept {t' : Nat} (I : Inv X pins σ H s) (k : ∀ b u, s.heap.get? b = some u → h'.get? b = some u) : Inv X pins σ H { s with heap := h', toks := t' } := I.un (Un.kept k) (I.hok.kept k)
theorem Inv.laid {a : Addr} {o : HO} {t' : Nat} (I : Inv X pins σ H s) (k : ∀ b u, s.heap.get? b = some u → h'.get? b = some u) (hp : s.heap.objs.size ≤ a) (new : ObjOk X.prog X.w (upd H a o) h' a o) :
    Inv X pins σ (upd H a o) { s with heap := h', toks := t' } := I.un (Un.laid k hp (I.hok.fresh hp)) (I.hok.laid k hp new)
theorem Inv.write {x e : Addr} {o : HO} {t' : Nat} (I : Inv X pins σ H s) (mu : Mut (H x)) (he : e = x ∨ H e = some (.own x)) (k : ∀ b u, b ≠ e → s.heap.get? b = some u → h'.get? b = some u) (heo : ∃ u, h'.get? e = some u)
    (new : ObjOk X.prog X.w (upd H x o) h' x o) : Inv X pins σ (upd H x o) { s with heap := h', toks := t' } := I.un (Un.write mu he k heo) (I.hok.write mu he k heo new)
theorem Inv.pins_of {pins' : List (Addr × Obj)} (I : Inv X pins σ H s) (h : ∀ p ∈ pins', s.heap.get? p.1 = some p.2 ∧ H p.1 = none ∧ p.1 ≠ X.env.locals ∧ p.1 ∉ X.fs ∧ ∀ v, p.2.data ≠ .cell v) : Inv X pins' σ H s :=
  ⟨I.ok, I.os, I.bare, I.base, I.loc, I.cell, I.free, I.freeC, fun p hp => (List.mem_append.mp hp).elim (fun z => I.pin p (List.mem_append_left _ z)) (h p), I.hok, I.len⟩

theorem nodup_ix {N : List Str} (hN : N.Nodup) {i j : Nat} {x : Str} (a : N[i]? = some x) (b : N[j]? = some x) : i = j := by
  obtain ⟨h1, e1⟩ := List.getElem?_eq_some_iff.mp a
  obtain ⟨h2, e2⟩ := List.getElem?_eq_some_iff.mp b
  exact (List.getElem_inj hN).mp (e1.trans e2.symm)

theorem store_ok2 {M : Model} {A : Around} {E : Value → Shared → Prop} {i : Nat} {x : Str} {v : V} {u : Value} {Q : Unit → Shared → Prop} (I : Inv X pins σ H s) (hN : X.N.Nodup) (hi : X.N[i]? = some x) (hx : Loc X.env.scope x) (r : RelV v u)
    (h : ∀ s', Inv X pins (σ.set i (some v)) H s' → (∃ a, Heap.SameBut a s.heap s'.heap ∧ (a = X.env.locals ∨ X.env.cells.lookup x = some a)) → Q () s') (hf : X.fn x = true ∨ X.env.scope.names.lookup x = some .local := by first | exact .inl rfl | exact .inr rfl | assumption) : wpAny M A (storeName X.env x u) Q E s := by
  obtain ⟨m, hn, hl⟩ := id I.loc
  have hcls : (X.env.scope.kind == .class || (X.env.scope.kind == .module && X.env.locals != X.env.globals)) = false := by rw [I.ok.kind]; rfl
  have hiσ : i < σ.length := by rw [I.len]; exact (List.getElem?_eq_some_iff.mp hi).1
  have cne := I.cne
  have tracked : ∀ {a : Addr} {h' : Heap}, (∃ o, s.heap.get? a = some o ∧ H a = none) → Heap.SameBut a s.heap h' → HOk X.prog X.w H h' := fun {a h'} ha hs b ob e => by
    obtain ⟨_, _, hfree⟩ := ha
    refine (I.hok b ob e).stay (fun c w' hc q => (hs.2 c ?_).trans q) (fun _ q => q) fun _ _ q => q
    rintro rfl
    rcases hc with rfl | hc
    · rw [hfree] at e; cases e
    · rw [hfree] at hc; cases hc
  rcases hx with hk | hk
  · refine wpAny_storeName_local hk hn (fun h' hn' hs => ?_) hcls
    obtain ⟨oL, _, _, hoL, _⟩ := id hn
    refine h _ ⟨I.ok, I.os, I.bare, ⟨fun b o e n hb hx => ?_, fun b o e n hb hx => ?_, I.base.free, fun b o e hx => ?_, I.base.tups, I.base.frzs, I.base.tbls⟩, ⟨_, hn', fun j y v' e1 e2 e3 => ?_⟩, fun y c e => ?_, I.free, I.freeC, fun p hp => ?_, tracked ⟨oL, hoL, I.free⟩ hs, by simpa using I.len⟩ ⟨_, hs, .inl rfl⟩
    · exact (hs.2 b (Nat.ne_of_lt (Nat.lt_of_lt_of_le (Heap.lt_size e) I.ok.above))).trans (I.base.keep b o e n hb hx)
    · obtain ⟨sl, e1⟩ := I.base.slot b o e n hb hx
      exact ⟨sl, (hs.2 b (Nat.ne_of_lt (Nat.lt_of_lt_of_le (Heap.lt_size e) I.ok.above))).trans e1⟩
    · obtain ⟨o', e1⟩ := I.base.there b o e hx
      exact ⟨o', (hs.2 b (Nat.ne_of_lt (Nat.lt_of_lt_of_le (Heap.lt_size e) I.ok.above))).trans e1⟩
    · by_cases hj : j = i
      · subst hj
        rw [hi] at e1; cases e1
        rw [List.getElem?_set_self hiσ] at e2
        cases e2
        exact ⟨u, r, .inl ⟨hk, by simp⟩⟩
      · rw [List.getElem?_set_ne (Ne.symm hj)] at e2
        obtain ⟨u', r', q⟩ := hl j y v' e1 e2 e3
        refine ⟨u', r', ?_⟩
        rcases q with ⟨k, e⟩ | ⟨k, c, e, z⟩
        · refine .inl ⟨k, ?_⟩
          have : y ≠ x := fun e => hj (nodup_ix hN e1 (e ▸ hi))
          simp [this, e]
        · exact .inr ⟨k, c, e, z.sameBut hs (cne y c e)⟩
    · obtain ⟨w', z⟩ := I.cell y c e
      exact ⟨w', z.sameBut hs (cne y c e)⟩
    · obtain ⟨e, n, ne, nf, d⟩ := I.pin p hp
      exact ⟨(hs.2 p.1 ne).trans e, n, ne, nf, d⟩
  · have hfn : X.fn x = true := by
      rcases hf with z | z
      · exact z
      · rw [z] at hk; cases hk
    obtain ⟨c, hc⟩ := I.ok.has x (.inl hk)
    obtain ⟨w', z⟩ := I.cell x c hc
    refine wpAny_storeName_cell I.ok.kind hk hc z (fun h' hc' hs => ?_)
    obtain ⟨oc, hoc, hocd⟩ := id z
    refine h { s with heap := h' } ⟨I.ok, I.os, I.bare, ⟨fun b o e n hb hx => ?_, fun b o e n hb hx => ?_, I.base.free, fun b o e hx => ?_, I.base.tups, I.base.frzs, I.base.tbls⟩, ⟨m, hn.sameBut hs (Ne.symm (cne x c hc)), fun j y v' e1 e2 e3 => ?_⟩, fun y c' e => ?_, I.free, I.freeC, fun p hp => ?_, tracked ⟨oc, hoc, I.freeC x c hc⟩ hs, by simpa using I.len⟩ ⟨c, hs, .inr hc⟩
    · exact (hs.2 b (Nat.ne_of_lt (Nat.lt_of_lt_of_le (Heap.lt_size e) (I.ok.cab x c hfn hc)))).trans (I.base.keep b o e n hb hx)
    · obtain ⟨sl, e1⟩ := I.base.slot b o e n hb hx
      exact ⟨sl, (hs.2 b (Nat.ne_of_lt (Nat.lt_of_lt_of_le (Heap.lt_size e) (I.ok.cab x c hfn hc)))).trans e1⟩
    · obtain ⟨o', e1⟩ := I.base.there b o e hx
      exact ⟨o', (hs.2 b (Nat.ne_of_lt (Nat.lt_of_lt_of_le (Heap.lt_size e) (I.ok.cab x c hfn hc)))).trans e1⟩
    · by_cases hj : j = i
      · subst hj
        rw [hi] at e1; cases e1
        rw [List.getElem?_set_self hiσ] at e2
        cases e2
        exact ⟨u, r, .inr ⟨.inl hk, c, hc, hc'⟩⟩
      · rw [List.getElem?_set_ne (Ne.symm hj)] at e2
        obtain ⟨u', r', q⟩ := hl j y v' e1 e2 e3
        refine ⟨u', r', ?_⟩
        rcases q with q | ⟨k, c', e, z'⟩
        · exact .inl q
        · refine .inr ⟨k, c', e, z'.sameBut hs ?_⟩
          rintro rfl
          exact hj (nodup_ix hN e1 (I.ok.inj _ _ _ e hc ▸ hi))
    · by_cases hcc : c' = c
      · subst hcc; exact ⟨_, hc'⟩
      · obtain ⟨w2, z2⟩ := I.cell y c' e
        exact ⟨w2, z2.sameBut hs hcc⟩
    · obtain ⟨e, n, ne, nf, d⟩ := I.pin p hp
      refine ⟨(hs.2 p.1 ?_).trans e, n, ne, nf, d⟩
      intro q
      rw [q, hoc] at e
      have q' : oc = p.2 := Option.some.inj e
      exact d w' (by rw [← q']; exact hocd)
theorem store_ok {M : Model} {A : Around} {E : Value → Shared → Prop} {i : Nat} {x : Str} {v : V} {u : Value} {Q : Unit → Shared → Prop} (I : Inv X pins σ H s) (hN : X.N.Nodup) (hi : X.N[i]? = some x) (hx : Loc X.env.scope x) (r : RelV v u)
    (h : ∀ s', Inv X pins (σ.set i (some v)) H s' → Q () s') (hf : X.fn x = true ∨ X.env.scope.names.lookup x = some .local := by first | exact .inl rfl | exact .inr rfl | assumption) : wpAny M A (storeName X.env x u) Q E s :=
  store_ok2 I hN hi hx r (fun s' I' _ => h s' I') hf
theorem Inv.call' {s' : Shared} {ch : List Addr} (I : Inv X pins σ H s) (ho : s'.os = s.os) (u : Un (frs X.stack) ch H H' s.heap s'.heap) (hok : HOk X.prog X.w H' s'.heap) (hg : AllBare s'.gens)
    (hch : ∀ b ∈ ch, (b ∈ X.ex ∨ X.s₀.heap.objs.size ≤ b) ∧ b ≠ X.env.locals ∧ (∀ x c, X.env.cells.lookup x = some c → c ≠ b) ∧ ∀ p ∈ X.pn ++ pins, p.1 ≠ b) : Inv X pins σ H' s' := by
  obtain ⟨h', g', d', t', o'⟩ := s'
  have e : o' = s.os := ho
  subst e
  exact I.call (g' := g') (t' := t') (d' := d') u hok hg hch
end

noncomputable abbrev XK := Value → Option Addr → Hp → Prop
noncomputable abbrev St := List (Option V)
noncomputable abbrev VK := V → Hp → Prop
noncomputable abbrev TE := St → Hp → VK → Prop
noncomputable abbrev TT := St → Hp → (Bool → Hp → Prop) → Prop
noncomputable abbrev TA := St → Hp → (List V → Hp → Prop) → Prop
structure Ends where
  nx : St → Hp → Prop
  rt : VK
  bk : St → Hp → Prop := fun _ _ => False
  ct : St → Hp → Prop := fun _ _ => False
noncomputable abbrev TS := Ends → St → Hp → Prop

noncomputable def EP (X : Cx) (pins : List (Addr × Obj)) (σ : St) (Q : VK) (u : Value) (s' : Shared) : Prop := ∃ v H', Inv X pins σ H' s' ∧ RelV v u ∧ Q v H'
noncomputable def TP (X : Cx) (pins : List (Addr × Obj)) (σ : St) (Q : Bool → Hp → Prop) (b : Bool) (s' : Shared) : Prop := ∃ H', Inv X pins σ H' s' ∧ Q b H'
noncomputable def AP (X : Cx) (pins : List (Addr × Obj)) (σ : St) (Q : List V → Hp → Prop) (us : List Value) (s' : Shared) : Prop := ∃ vs H', Inv X pins σ H' s' ∧ Vals vs us ∧ Q vs H'
noncomputable def SP (X : Cx) (pins : List (Addr × Obj)) (D : Ends) (f : Flow) (s' : Shared) : Prop :=
  match f with
  | .next => ∃ σ' H', Inv X pins σ' H' s' ∧ D.nx σ' H'
  | .brk => ∃ σ' H', Inv X pins σ' H' s' ∧ D.bk σ' H'
  | .cont => ∃ σ' H', Inv X pins σ' H' s' ∧ D.ct σ' H'
  | .ret u => ∃ v σ' H', Inv X pins σ' H' s' ∧ RelV v u ∧ D.rt v H'

noncomputable def PE (X : Cx) (e : Expr) (t : TE) : Prop :=
  ∀ (pins : List (Addr × Obj)) (s : Shared) (σ : St) (H : Hp) (Q : VK), Inv X pins σ H s → t σ H Q → wpAny (model X.prog X.w) X.A (eval e X.env) (EP X pins σ Q) X.xe s
noncomputable def PT (X : Cx) (e : Expr) (t : TT) : Prop :=
  ∀ (pins : List (Addr × Obj)) (s : Shared) (σ : St) (H : Hp) (Q : Bool → Hp → Prop), Inv X pins σ H s → t σ H Q → wpAny (model X.prog X.w) X.A (isTrue e X.env (eval e X.env)) (TP X pins σ Q) X.xe s
noncomputable def PW (X : Cx) (e : Expr) (t : TT) : Prop :=
  ∀ (whole : Sem Value) (pins : List (Addr × Obj)) (s : Shared) (σ : St) (H : Hp) (Q : Bool → Hp → Prop), Inv X pins σ H s → t σ H Q → wpAny (model X.prog X.w) X.A (isTrue e X.env whole) (TP X pins σ Q) X.xe s
theorem PW.pt {X : Cx} {e : Expr} {t : TT} (h : PW X e t) : PT X e t := h _
noncomputable def PA (X : Cx) (es : List Expr) (t : TA) : Prop :=
  ∀ (pos : Pos) (pins : List (Addr × Obj)) (s : Shared) (σ : St) (H : Hp) (Q : List V → Hp → Prop), Inv X pins σ H s → t σ H Q → wpAny (model X.prog X.w) X.A (spliced (backTo pos (starEach es X.env))) (AP X pins σ Q) X.xe s
noncomputable def PS (X : Cx) (st : Stmt) (t : TS) : Prop :=
  ∀ (pins : List (Addr × Obj)) (s : Shared) (σ : St) (H : Hp) (D : Ends), Inv X pins σ H s → t D σ H → wpAny (model X.prog X.w) X.A (exec st X.env) (SP X pins D) X.xe s
noncomputable def PSs (X : Cx) (st : List Stmt) (t : TS) : Prop :=
  ∀ (pins : List (Addr × Obj)) (s : Shared) (σ : St) (H : Hp) (D : Ends), Inv X pins σ H s → t D σ H → wpAny (model X.prog X.w) X.A (execs st X.env) (SP X pins D) X.xe s
theorem thn {α : Type} {t : Sem α} {Q Q' : α → Shared → Prop} {M : Model} {A : Around} {E : Value → Shared → Prop} {s : Shared} (h : wpAny M A t Q E s) (hQ : ∀ a s, Q a s → Q' a s) : wpAny M A t Q' E s := wpAny_mono h hQ fun _ _ x => x
end L2

namespace L2
open PySem PySem.Spec PyProof.Rows
section
variable {X : Cx}

noncomputable def tVar (i : Nat) : TE := fun σ H Q => ∃ v, σ[i]? = some (some v) ∧ Q v H
noncomputable def tC (v : V) : TE := fun _ H Q => Q v H
theorem pe_var {i : Nat} {x : Str} {pos : Pos} (hN : X.N[i]? = some x) (hv : Vis X.env.scope x) (hd : (x == ("__debug__" : Str)) = false := by decide) (hcd : (x == ("__classdict__" : Str)) = false := by decide) : PE X (.Name x pos) (tVar i) := by
  intro pins s σ H Q I h
  obtain ⟨v, e, h⟩ := h
  obtain ⟨m, hn, hl⟩ := I.loc
  obtain ⟨u, r, l⟩ := hl i x v hN e hv
  have fin : EP X pins σ Q u s := ⟨v, H, I, r, h⟩
  rcases l with ⟨hk, hm⟩ | ⟨hk, c, hc, hcell⟩
  · exact wpAny_Name (wpAny_loadName_local I.ok.kind hk hn hm fin) hd
  · rcases hk with hk | hk
    · exact wpAny_Name (wpAny_loadName_cell I.ok.kind hk hc hcell fin) hd
    · exact wpAny_Name (wpAny_loadName_free I.ok.kind hk hc hcell fin hcd) hd
theorem pe_int {i j pos} : PE X (.Constant (.int i) j pos) (tC (.int i)) := fun _ _ _ H _ I h => wpAny_Constant_int ⟨.int i, H, I.tok _, ⟨_, rfl⟩, h⟩
theorem pe_bl {b j pos} : PE X (.Constant (.bool b) j pos) (tC (.bl b)) := fun _ _ _ H _ I h => Constant_bool ⟨.bl b, H, I, rfl, h⟩

noncomputable def Gl (X : Cx) (x : Str) : Prop := X.env.kindOf x = some .globalImplicit
theorem ld_glob {E : Value → Shared → Prop} {pins : List (Addr × Obj)} {s : Shared} {σ : St} {H : Hp} {x : Str} {u : Value} {pos : Pos} {Q : Value → Shared → Prop} (I : Inv X pins σ H s) (hg : Gl X x) (hm : X.mg x = some u) (h : Q u s)
    (hd : (x == ("__debug__" : Str)) = false := by decide) : wpAny (model X.prog X.w) X.A (eval (.Name x pos) X.env) Q E s :=
  Calls.Name_function_global I.ok.kind hg (Calls.loadGlobal_global (by rw [I.ok.glob]; exact I.mod.glob.keeps I.bk) hm h) hd
theorem ld_blt {E : Value → Shared → Prop} {pins : List (Addr × Obj)} {s : Shared} {σ : St} {H : Hp} {x : Str} {u : Value} {pos : Pos} {Q : Value → Shared → Prop} (I : Inv X pins σ H s) (hg : Gl X x) (hm : X.mg x = none) (hv : bootBuiltins x = some u) (h : Q u s)
    (hn : x ≠ "__name__" := by decide) (hd : (x == ("__debug__" : Str)) = false := by decide) : wpAny (model X.prog X.w) X.A (eval (.Name x pos) X.env) Q E s := by
  obtain ⟨mb, h1, h2⟩ := I.mod.blt
  exact Calls.Name_function_global I.ok.kind hg (Calls.loadGlobal_builtin (by rw [I.ok.glob]; exact I.mod.glob.keeps I.bk) hm (by rw [I.ok.blt]; exact h1.keeps I.bk) ((h2 x hn).trans hv) h) hd
theorem pe_glob {x : Str} {v : V} {u : Value} {pos : Pos} (hg : Gl X x) (hm : X.mg x = some u) (r : RelV v u) (hd : (x == ("__debug__" : Str)) = false := by decide) : PE X (.Name x pos) (tC v) :=
  fun _ _ _ H _ I h => ld_glob I hg hm ⟨v, H, I, r, h⟩ hd
theorem pe_bltn {x : Str} {v : V} {u : Value} {pos : Pos} (hg : Gl X x) (hm : X.mg x = none) (hv : bootBuiltins x = some u) (r : RelV v u) (hn : x ≠ "__name__" := by decide) (hd : (x == ("__debug__" : Str)) = false := by decide) : PE X (.Name x pos) (tC v) :=
  fun _ _ _ H _ I h => ld_blt I hg hm hv ⟨v, H, I, r, h⟩ hn hd

variable {a b : Expr} {ta tb : TE} {pos : Pos}

noncomputable def PC (X : Cx) (op : CmpOp) (a b : Expr) (t : TE) : Prop :=
  ∀ (pins : List (Addr × Obj)) (s : Shared) (σ : St) (H : Hp) (Q : VK), Inv X pins σ H s → t σ H Q →
    wpAny (model X.prog X.w) X.A (eval a X.env) (fun v s₁ => wpAny (model X.prog X.w) X.A (eval b X.env) (fun u s₂ => wpAny (model X.prog X.w) X.A (compareOp op v u) (EP X pins σ Q) X.xe s₂) X.xe s₁) X.xe s
theorem nobehind (b : Expr) {op : CmpOp} (h : op ≠ .In) (h2 : op ≠ .NotIn) : behindInMarks op b = false := by
  have e1 : (op == CmpOp.In) = false := by cases op <;> first | rfl | exact absurd rfl h
  have e2 : (op == CmpOp.NotIn) = false := by cases op <;> first | rfl | exact absurd rfl h2
  cases b <;> simp [behindInMarks, e1, e2]
noncomputable def tB (t : TE) : TT := fun σ H Q => t σ H fun x H1 => ∃ c, x = .bl c ∧ Q c H1
theorem pt_cmp {op : CmpOp} {t : TE} (h : PC X op a b t) (h1 : behindInMarks op b = false := by first | exact nobehind _ (by decide) (by decide) | rfl) : PT X (.Compare a [op] [b] pos) (tB t) := by
  intro pins s σ H Q I hw
  refine wpAny_isTrue_Compare1 (thn (h pins s σ H _ I hw) fun v s1 h1 => thn h1 fun u s2 h2 => thn h2 ?_) h1
  rintro c s3 ⟨x, H1, I1, r1, q1⟩
  obtain ⟨d, rfl, q⟩ := q1
  cases r1
  exact wpAny_truthy_bool ⟨H1, I1, q⟩
theorem pt_val {e : Expr} {t : TE} (h : PE X e t) (he : ∀ whole, isTrue e X.env whole = (do let v ← whole; standAt e.pos; holding [v] (truthy v)) := by intro _; rfl) : PT X e (tB t) := by
  intro pins s σ H Q I hw
  refine isTrue_plain (thn (h pins s σ H _ I hw) ?_) (he _)
  rintro v s1 ⟨x, H1, I1, r1, q1⟩
  obtain ⟨d, rfl, q⟩ := q1
  cases r1
  exact wpAny_truthy_bool ⟨H1, I1, q⟩

variable {tA tB' : TT} {rest : List Expr}
noncomputable def tAnd (t u : TT) : TT := fun σ H Q => t σ H fun c H1 => if c = true then u σ H1 Q else Q false H1
noncomputable def tOr (t u : TT) : TT := fun σ H Q => t σ H fun c H1 => if c = true then Q true H1 else u σ H1 Q
noncomputable def tNot (t : TT) : TT := fun σ H Q => t σ H fun c H1 => Q (!c) H1
theorem pw_and1 (ha : PT X a tA) : PW X (.BoolOp .And [a] pos) tA := by
  intro wh pins s σ H Q I h
  refine isTrue_and (thn (ha pins s σ H Q I h) fun c s1 e => ?_)
  cases c with
  | true => exact isTrue_and_nil e
  | false => exact e
theorem pw_or1 (ha : PT X a tA) : PW X (.BoolOp .Or [a] pos) tA := by
  intro wh pins s σ H Q I h
  refine isTrue_or (thn (ha pins s σ H Q I h) fun c s1 e => ?_)
  cases c with
  | false => exact isTrue_or_nil e
  | true => exact e
theorem pw_and (ha : PT X a tA) (hb : PW X (.BoolOp .And (b :: rest) pos) tB') : PW X (.BoolOp .And (a :: b :: rest) pos) (tAnd tA tB') := by
  intro wh pins s σ H Q I h
  refine isTrue_and (thn (ha pins s σ H _ I h) ?_)
  rintro c s1 ⟨H1, I1, q1⟩
  cases c with
  | true => exact hb wh pins s1 σ H1 Q I1 q1
  | false => exact ⟨H1, I1, q1⟩
theorem pw_or (ha : PT X a tA) (hb : PW X (.BoolOp .Or (b :: rest) pos) tB') : PW X (.BoolOp .Or (a :: b :: rest) pos) (tOr tA tB') := by
  intro wh pins s σ H Q I h
  refine isTrue_or (thn (ha pins s σ H _ I h) ?_)
  rintro c s1 ⟨H1, I1, q1⟩
  cases c with
  | true => exact ⟨H1, I1, q1⟩
  | false => exact hb wh pins s1 σ H1 Q I1 q1
theorem pt_not (ha : PT X a tA) : PT X (.UnaryOp .Not a pos) (tNot tA) := by
  intro pins s σ H Q I h
  exact isTrue_not (ha pins s σ H (fun c H1 => Q (!c) H1) I h)
noncomputable def tAndV (ta tb : TE) : TE := fun σ H Q => ta σ H fun x H1 => ∃ c, x = .bl c ∧ if c = true then tb σ H1 Q else Q (.bl false) H1
theorem pe_one {op} {t : TE} (h : PE X a t) : PE X (.BoolOp op [a] pos) t := fun pins s σ H Q I hw => BoolOp_one (h pins s σ H Q I hw)
theorem pe_and (ha : PE X a ta) (hb : PE X (.BoolOp .And (b :: rest) pos) tb) : PE X (.BoolOp .And (a :: b :: rest) pos) (tAndV ta tb) := by
  intro pins s σ H Q I h
  refine BoolOp_and (thn (ha pins s σ H _ I h) ?_)
  rintro v s1 ⟨x, H1, I1, r1, q1⟩
  obtain ⟨c, rfl, q1⟩ := q1
  cases r1
  refine wpAny_truthy_bool ?_
  cases c with
  | true => exact hb pins s1 σ H1 Q I1 q1
  | false => exact ⟨.bl false, H1, I1, rfl, q1⟩
end
end L2

namespace L2
open PySem PySem.Spec PyProof.Rows

noncomputable def SqL (K : PySem.W.Frag) (H : Hp) (a : Addr) (xs : List V) : Prop :=
  Rd H a (.lst xs) ∨
    ∃ (o : Obj) (its : Array Value) (n : Nat), K.lookup a = some o ∧ o.cls = .type "list" ∧ o.dict = none ∧ o.data = .seq its n ∧ its.size ≤ sizeLine ∧ Vals xs its.toList
noncomputable def SqT (K : PySem.W.Frag) (H : Hp) (a : Addr) (xs : List V) : Prop :=
  Rd H a (.tup xs) ∨
    ∃ (o : Obj) (its : Array Value) (n : Nat), K.lookup a = some o ∧ o.cls = .type "tuple" ∧ o.data = .seq its n ∧ its.size ≤ sizeLine ∧ Vals xs its.toList
noncomputable def absV : Value → Option V
  | .none => some .non
  | .bool b => some (.bl b)
  | .int i _ => some (.int i)
  | .str x _ => some (.str x)
  | .bytes b _ => some (.byt b)
  | .float b _ => some (.flt b)
  | .ref a => some (.ref a)
  | .type n => some (.ty n)
  | _ => none
theorem RelV.abs {x : V} {u : Value} (r : RelV x u) : absV u = some x := by
  cases x with
  | non => cases r; rfl
  | bl _ => cases r; rfl
  | int _ => obtain ⟨t, rfl⟩ := r; rfl
  | str _ => obtain ⟨t, rfl⟩ := r; rfl
  | byt _ => obtain ⟨t, rfl⟩ := r; rfl
  | flt _ => obtain ⟨t, rfl⟩ := r; rfl
  | ref _ => cases r; rfl
  | ty _ => cases r; rfl
theorem RelV.inj {x y : V} {u : Value} (r : RelV x u) (q : RelV y u) : x = y := Option.some.inj (r.abs.symm.trans q.abs)
theorem Vals.inj : ∀ {xs ys : List V} {us : List Value}, Vals xs us → Vals ys us → xs = ys
  | _, _, _, .nil, .nil => rfl
  | _, _, _, .cons r t, .cons r' t' => by rw [r.inj r', Vals.inj t t']
section
variable {X : Cx} {pins : List (Addr × Obj)} {σ : St} {H : Hp} {s : Shared} {a : Addr} {xs ys : List V}
theorem SqL.of {K : PySem.W.Frag} (h : H a = some (.lst xs)) : SqL K H a xs := .inl (.inl h)
theorem SqT.of {K : PySem.W.Frag} (h : H a = some (.tup xs)) : SqT K H a xs := .inl (.inl h)
theorem Inv.list (I : Inv X pins σ H s) (h : SqL X.K H a xs) : ∃ its : List Value, Vals xs its ∧ PlainL s.heap a its.toArray ∧ xs.length ≤ sizeLine := by
  rcases h with h | ⟨o, its, n, hk, hc, hd, hs, hz, r⟩
  · obtain ⟨z, its, n, r, e⟩ := h.ok I.hok
    exact ⟨its, r, ⟨_, n, e, rfl, rfl, rfl⟩, z⟩
  · refine ⟨its.toList, r, ⟨o, n, I.kIn a o hk, hc, hd, by simpa using hs⟩, ?_⟩
    have e := r.length
    simp only [Array.length_toList] at e
    omega
theorem Inv.tuple (I : Inv X pins σ H s) (h : SqT X.K H a xs) : ∃ its : List Value, Vals xs its ∧ IsTup s.heap a its.toArray ∧ xs.length ≤ sizeLine := by
  rcases h with h | ⟨o, its, n, hk, hc, hs, hz, r⟩
  · obtain ⟨z, its, r, p⟩ := h.ok I.hok
    exact ⟨its, r, p, z⟩
  · refine ⟨its.toList, r, ⟨o, I.kIn a o hk, hc, n, by simpa using hs⟩, ?_⟩
    have e := r.length
    simp only [Array.length_toList] at e
    omega
theorem Inv.list_inj (I : Inv X pins σ H s) (h : SqL X.K H a xs) (h' : SqL X.K H a ys) : xs = ys := by
  obtain ⟨its, r, ⟨o, n, e, _, _, d⟩, _⟩ := I.list h
  obtain ⟨its', r', ⟨o', n', e', _, _, d'⟩, _⟩ := I.list h'
  rw [e] at e'; cases e'
  rw [d] at d'
  injection d' with d1 _
  have : its = its' := by simpa using congrArg Array.toList d1
  subst this
  exact r.inj r'
end

noncomputable abbrev Cx.wish (X : Cx) (E : Value → Shared → Prop) : Cx := { X with xe := E }
noncomputable abbrev Cx.nox (X : Cx) : Cx := X.wish fun _ _ => False
theorem Cx.Ok.wish {X : Cx} (ok : X.Ok) (E : Value → Shared → Prop) : (X.wish E).Ok :=
  ⟨ok.mod, ok.kind, ok.glob, ok.blt, ok.above, ok.inj, ok.has, ok.cab, ok.hd, ok.frames, ok.stk, ok.exf, ok.bs, ok.bsz, ok.noex, ok.exfs, ok.funs, ok.frf⟩
theorem Cx.Ok.unwish {X : Cx} {E : Value → Shared → Prop} (ok : (X.wish E).Ok) : X.Ok :=
  ⟨ok.mod, ok.kind, ok.glob, ok.blt, ok.above, ok.inj, ok.has, ok.cab, ok.hd, ok.frames, ok.stk, ok.exf, ok.bs, ok.bsz, ok.noex, ok.exfs, ok.funs, ok.frf⟩
section
variable {X : Cx} {pins : List (Addr × Obj)} {σ : St} {H : Hp} {s : Shared} {E : Value → Shared → Prop}
theorem Inv.wish (I : Inv X pins σ H s) (E : Value → Shared → Prop) : Inv (X.wish E) pins σ H s := ⟨I.ok.wish E, I.os, I.bare, I.base, I.loc, I.cell, I.free, I.freeC, I.pin, I.hok, I.len⟩
theorem Inv.unwish (I : Inv (X.wish E) pins σ H s) : Inv X pins σ H s := ⟨I.ok.unwish, I.os, I.bare, I.base, I.loc, I.cell, I.free, I.freeC, I.pin, I.hok, I.len⟩
theorem SP.unwish {D : Ends} {f : Flow} {s' : Shared} (h : SP (X.wish E) pins D f s') : SP X pins D f s' := by
  cases f with
  | next => obtain ⟨σ', H', I, q⟩ := h; exact ⟨σ', H', I.unwish, q⟩
  | brk => obtain ⟨σ', H', I, q⟩ := h; exact ⟨σ', H', I.unwish, q⟩
  | cont => obtain ⟨σ', H', I, q⟩ := h; exact ⟨σ', H', I.unwish, q⟩
  | ret u => obtain ⟨v, σ', H', I, r, q⟩ := h; exact ⟨v, σ', H', I.unwish, r, q⟩
theorem PSs.nox {st : List Stmt} {t : TS} (h : PSs X.nox st t) : PSs X st t := fun pins s σ H D I hw =>
  wpAny_mono (h pins s σ H D (I.wish _) hw) (fun _ _ q => q.unwish) fun _ _ z => False.elim z
end

section
variable {X : Cx} {st : Stmt} {rest : List Stmt} {t u : TS} {e : Expr} {te : TE} {pos : Pos}
noncomputable def tNext : TS := fun D σ H => D.nx σ H
noncomputable def tSeq (t u : TS) : TS := fun D σ H => t { D with nx := u D } σ H
theorem pss_nil : PSs X [] tNext := fun _ _ σ H _ I h => wpAny_execs_nil ⟨σ, H, I, h⟩
theorem pss_cons (h1 : PS X st t) (h2 : PSs X rest u) : PSs X (st :: rest) (tSeq t u) := by
  intro pins s σ H D I h
  refine wpAny_execs_cons (thn (h1 pins s σ H { D with nx := u D } I h) fun f s1 q => ?_)
  cases f with
  | next =>
    obtain ⟨σ', H', I', q⟩ := q
    exact h2 pins s1 σ' H' D I' q
  | ret v => exact q
  | brk => exact q
  | cont => exact q
theorem pss_one (h1 : PS X st t) : PSs X [st] t := by
  intro pins s σ H D I h
  refine wpAny_execs_cons (thn (h1 pins s σ H D I h) fun f s1 q => ?_)
  cases f with
  | next => exact wpAny_execs_nil q
  | ret v => exact q
  | brk => exact q
  | cont => exact q
theorem Inv.quiet {pins : List (Addr × Obj)} {σ : St} {H : Hp} {s : Shared} (I : Inv X pins σ H s) : interactive X.env = false := by simp [interactive, I.ok.kind]
noncomputable def tDrop (te : TE) : TS := fun D σ H => te σ H fun _ H1 => D.nx σ H1
theorem ps_expr (he : PE X e te) (hs : swapsWith e none pos.line X.env = pure false := by rfl) : PS X (.Expr e pos) (tDrop te) := by
  intro pins s σ H D I h
  exact wpAny_Expr_any (thn (he pins s σ H _ I h) fun v s1 ⟨x, H1, I1, r1, q1⟩ => ⟨σ, H1, I1, q1⟩) I.quiet hs
noncomputable def tRet (te : TE) : TS := fun D σ H => te σ H D.rt
theorem ps_ret (he : PE X e te) : PS X (.Return (some e) pos) (tRet te) := by
  intro pins s σ H D I h
  exact wpAny_Return_some (thn (he pins s σ H _ I h) fun v s1 ⟨x, H1, I1, r1, q1⟩ => ⟨x, σ, H1, I1, r1, q1⟩)
noncomputable def tIfS (c : TT) (t u : TS) : TS := fun D σ H => c σ H fun b H1 => if b = true then t D σ H1 else u D σ H1
theorem ps_if {c : Expr} {a b : List Stmt} {tc : TT} (hc : PT X c tc) (ha : PSs X a t) (hb : PSs X b u) : PS X (.If c a b pos) (tIfS tc t u) := by
  intro pins s σ H D I h
  refine wpAny_If (thn (hc pins s σ H _ I h) ?_)
  rintro d s1 ⟨H1, I1, q1⟩
  cases d with
  | true => exact ha pins s1 σ H1 D I1 q1
  | false => exact hb pins s1 σ H1 D I1 q1
noncomputable def tNever : TS := fun _ _ _ => False
theorem ps_never : PS X st tNever := fun _ _ _ _ _ _ h => h.elim
end

noncomputable abbrev TG := V → St → Hp → (St → Hp → Prop) → Prop
noncomputable abbrev TGs := List V → St → Hp → (St → Hp → Prop) → Prop
noncomputable def PG (X : Cx) (target : Expr) (t : TG) : Prop :=
  ∀ (pins : List (Addr × Obj)) (s : Shared) (σ : St) (H : Hp) (v : V) (u : Value) (Q : St → Hp → Prop), Inv X pins σ H s → RelV v u → t v σ H Q →
    wpAny (model X.prog X.w) X.A (assign target X.env u) (fun _ s' => ∃ σ' H', Inv X pins σ' H' s' ∧ Q σ' H') X.xe s
noncomputable def PGs (X : Cx) (ts : List Expr) (t : TGs) : Prop :=
  ∀ (pins : List (Addr × Obj)) (s : Shared) (σ : St) (H : Hp) (vs : List V) (us : List Value) (Q : St → Hp → Prop), Inv X pins σ H s → Vals vs us → t vs σ H Q →
    wpAny (model X.prog X.w) X.A (assignInOrder ((assignEach ts X.env).map (·.2)) us) (fun _ s' => ∃ σ' H', Inv X pins σ' H' s' ∧ Q σ' H') X.xe s
section
variable {X : Cx} {pos : Pos}
noncomputable def gName (i : Nat) : TG := fun v σ H Q => Q (σ.set i (some v)) H
theorem pg_name {i : Nat} {x : Str} (hN : X.N.Nodup) (hi : X.N[i]? = some x) (hx : Loc X.env.scope x) (hf : X.fn x = true ∨ X.env.scope.names.lookup x = some .local := by first | exact .inl rfl | exact .inr rfl | assumption) : PG X (.Name x pos) (gName i) := by
  intro pins s σ H v u Q I r h
  exact wpAny_assign_Name (store_ok I hN hi hx r (fun s' I' => ⟨_, H, I', h⟩) hf)
noncomputable def gNil : TGs := fun vs σ H Q => vs = [] ∧ Q σ H
noncomputable def gCons (t : TG) (u : TGs) : TGs := fun vs σ H Q => ∃ v r, vs = v :: r ∧ t v σ H fun σ' H' => u r σ' H' Q
theorem pgs_nil : PGs X [] gNil := by
  intro pins s σ H vs us Q I r h
  obtain ⟨e, h⟩ := h
  subst e
  cases r
  exact assignInOrder_nil ⟨σ, H, I, h⟩
theorem pgs_cons {e : Expr} {es : List Expr} {t : TG} {u : TGs} (h1 : PG X e t) (h2 : PGs X es u)
    (hs : (assignEach (e :: es) X.env).map (·.2) = assign e X.env :: (assignEach es X.env).map (·.2) := by rfl) : PGs X (e :: es) (gCons t u) := by
  intro pins s σ H vs us Q I r h
  obtain ⟨v, vr, e1, h⟩ := h
  subst e1
  cases r with
  | cons r rr =>
    rw [hs]
    refine assignInOrder_cons (thn (h1 pins s σ H _ _ _ I r h) ?_)
    rintro _ s1 ⟨σ1, H1, I1, q1⟩
    exact h2 pins s1 σ1 H1 _ _ Q I1 rr q1
noncomputable def gTup (K : PySem.W.Frag) (n : Nat) (t : TGs) : TG := fun v σ H Q => ∃ a xs, v = .ref a ∧ SqT K H a xs ∧ xs.length = n ∧ t xs σ H Q
theorem pg_tup {es : List Expr} {k : Nat} {t : TGs} {n : Nat} (hc : X.calm = true) (h : PGs X es t)
    (hn : (assignEach es X.env).length = n := by rfl) (hst : (assignEach es X.env).findIdx? (·.1) = none := by rfl) : PG X (.Tuple es k pos) (gTup X.K n t) := by
  intro pins s σ H v u Q I r hw
  obtain ⟨a, xs, e1, hq, hl, hw⟩ := hw
  subst e1
  cases r
  obtain ⟨its, rv, ht, hz⟩ := I.tuple hq
  refine assign_Tuple_tuple (I.ok.hd hc) ht (by simp [hn, ← hl, rv.length]) hst fun h' hx => ?_
  have I1 : Inv X pins σ H { s with heap := h' } := I.kept (t' := s.toks) fun b o e => hx b o (Nat.ne_of_lt (Heap.lt_size e)) e
  exact h pins _ σ H xs _ Q I1 (by simpa using rv) hw
noncomputable def tAsg (te : TE) (g : TG) : TS := fun D σ H => te σ H fun x H1 => g x σ H1 D.nx
theorem ps_set {i : Nat} {x : Str} {e : Expr} {te : TE} {pos' : Pos} (hN : X.N.Nodup) (hi : X.N[i]? = some x) (hx : Loc X.env.scope x) (he : PE X e te) (hs : swapsWith e (some (.Name x pos')) pos.line X.env = pure false := by rfl) (hf : X.fn x = true ∨ X.env.scope.names.lookup x = some .local := by first | exact .inl rfl | exact .inr rfl | assumption) :
    PS X (.Assign [.Name x pos'] e pos) (tAsg te (gName i)) := by
  intro pins s σ H D I h
  refine wpAny_Assign_Name (thn (he pins s σ H _ I h) ?_) hs
  rintro v s1 ⟨y, H1, I1, r1, q1⟩
  exact store_ok I1 hN hi hx r1 (fun s2 I2 => ⟨_, H1, I2, q1⟩) hf
end

section
variable {X : Cx} {pos : Pos}
end

structure It where
  go : Nat → Hp → Prop
  yld : Nat → Hp → V → Hp → Prop
  stop : Nat → Hp → Prop
noncomputable def FpOk (X : Cx) (pins : List (Addr × Obj)) (H : Hp) (b : Addr) : Prop :=
  H b = none ∧ b ≠ X.env.locals ∧ b ∉ X.fs ∧ (b ∈ X.ex ∨ X.s₀.heap.objs.size ≤ b) ∧ (∀ x c, X.env.cells.lookup x = some c → c ≠ b) ∧ ∀ p ∈ X.pn ++ pins, p.1 ≠ b
theorem Inv.fpOk {X : Cx} {pins : List (Addr × Obj)} {σ : St} {H H' : Hp} {s : Shared} {b : Addr} (I : Inv X pins σ H s) (hb : s.heap.objs.size ≤ b) (hn : H' b = none) : FpOk X pins H' b := by
  refine ⟨hn, Nat.ne_of_gt (Nat.lt_of_lt_of_le I.lt hb), I.nofs hb, .inr (Nat.le_trans I.sz hb), fun x c e z => ?_, fun p hp z => ?_⟩
  · obtain ⟨v, q⟩ := I.cell x c e
    exact absurd (Nat.lt_of_lt_of_le q.lt (by rw [z]; exact hb)) (Nat.lt_irrefl _)
  · exact absurd (Nat.lt_of_lt_of_le (Heap.lt_size (I.pin p hp).1) (by rw [z]; exact hb)) (Nat.lt_irrefl _)
structure Turn (P : Program) (w : World) (K : PySem.W.Frag) (tg : Expr) (J : It) (fp : List Addr) (it : Addr) (tn : Nat → Heap → Prop) : Prop where
  mem : it ∈ fp
  obj : ∀ i h, tn i h → ∀ b ∈ fp, ∃ o, h.get? b = some o ∧ ∀ v, o.data ≠ .cell v
  keep : ∀ i h h', tn i h → (∀ b ∈ fp, ∀ o, h.get? b = some o → h'.get? b = some o) → tn i h'
  item : ∀ (X : Cx), X.prog = P → X.w = w → X.K = K → X.calm = true → ∀ (i : Nat) (pins : List (Addr × Obj)) (s : Shared) (σ : St) (H : Hp) (E : Value → Shared → Prop), Inv X pins σ H s → (∀ b ∈ fp, FpOk X pins H b) → tn i s.heap → J.go i H →
    wpAny (model P w) X.A (pyNext (.ref it)) (fun r s1 => ∃ u, r = some u ∧
      wpAny (model P w) X.A (letOwnedTupleGo tg (.ref it) u) (fun _ s2 => ∃ x H', Inv X pins σ H' s2 ∧ RelV x u ∧ J.yld i H x H' ∧ tn (i + 1) s2.heap ∧ ∀ b ∈ fp, H' b = none) E s1) E s
  done : ∀ (X : Cx), X.prog = P → X.w = w → X.K = K → X.calm = true → ∀ (i : Nat) (pins : List (Addr × Obj)) (s : Shared) (σ : St) (H : Hp) (E : Value → Shared → Prop), Inv X pins σ H s → (∀ b ∈ fp, FpOk X pins H b) → tn i s.heap → J.stop i H →
    wpAny (model P w) X.A (pyNext (.ref it)) (fun r s1 => r = none ∧ Inv X pins σ H s1) E s
  self : ∀ (A : Around) (i : Nat) (s : Shared) (Q : Value → Shared → Prop) (E : Value → Shared → Prop), tn i s.heap → Q (.ref it) s → wpAny (model P w) A (pyIter (.ref it)) Q E s
noncomputable abbrev TI := St → Hp → (It → Hp → Prop) → Prop
noncomputable def PIE (X : Cx) (pins : List (Addr × Obj)) (σ : St) (tg : Expr) (R : It → Hp → Prop) (itv : Value) (s2 : Shared) : Prop :=
  ∃ (it : Addr) (fp : List Addr) (tn : Nat → Heap → Prop) (J : It) (H' : Hp), itv = .ref it ∧ Inv X pins σ H' s2 ∧ Turn X.prog X.w X.K tg J fp it tn ∧ tn 0 s2.heap ∧ (∀ b ∈ fp, FpOk X pins H' b) ∧ R J H'
noncomputable def PI (X : Cx) (tg iter : Expr) (wi : TI) : Prop :=
  ∀ (pins : List (Addr × Obj)) (s : Shared) (σ : St) (H : Hp) (R : It → Hp → Prop), Inv X pins σ H s → wi σ H R →
    wpAny (model X.prog X.w) X.A (eval iter X.env) (fun v s1 => wpAny (model X.prog X.w) X.A (pyIter v) (PIE X pins σ tg R) X.xe s1) X.xe s

theorem go_of {M : Model} {A : Around} {E : Value → Shared → Prop} {s : Shared} {tg : Expr} {it : Addr} {u : Value} {o : Obj} {n : String} {vs : Array Value} {Q : Unit → Shared → Prop} (ho : s.heap.get? it = some o) (hc : o.cls = .type n) (hd : o.data = .fields vs)
    (hn : ["enumerate", "zip", "dict_itemiterator", "dict_reverseitemiterator", "odict_iterator", "itertools.zip_longest", "itertools.pairwise"].contains n = false) (hQ : Q () s) : wpAny M A (letOwnedTupleGo tg (.ref it) u) Q E s := by
  unfold letOwnedTupleGo
  cases tg <;> first
    | exact wpAny_pure hQ
    | (cases u <;> first
        | exact wpAny_pure hQ
        | (refine wpAny_bind (wpAny_load ho ?_)
           rw [hc, hd]
           show wpAny M A (if (["enumerate", "zip", "dict_itemiterator", "dict_reverseitemiterator", "odict_iterator", "itertools.zip_longest", "itertools.pairwise"].contains n && vs[0]? == some (rawInt _)) = true then _ else _) Q E s
           rw [if_neg (by intro h; rw [hn, Bool.false_and] at h; cases h)]
           exact wpAny_pure hQ))

noncomputable def Itl (K : PySem.W.Frag) (a : Addr) : It :=
  ⟨fun i H => ∃ xs x, SqL K H a xs ∧ xs[i]? = some x, fun i H x H' => H' = H ∧ ∀ xs, SqL K H a xs → xs[i]? = some x, fun i H => ∃ xs, SqL K H a xs ∧ xs.length ≤ i⟩
noncomputable def Itr (lo : Int) (n : Nat) : It := ⟨fun i _ => i < n, fun i H x H' => H' = H ∧ x = .int (lo + i), fun i _ => n ≤ i⟩
theorem turn_list {P : Program} {w : World} {K : PySem.W.Frag} {tg : Expr} (a it : Addr) : Turn P w K tg (Itl K a) [it] it (fun i h => h.IsListIter it a i) where
  mem := by simp
  obj := fun i h st b hb => by
    have e : b = it := by simpa using hb
    subst e
    obtain ⟨o, e, c, d⟩ := st
    exact ⟨o, e, fun v z => by rw [d] at z; cases z⟩
  keep := fun i h h' st k => st.at fun o e => k it (by simp) o e
  item := by
    intro X hP hw hK hc i pins s σ H E I hf st hg
    subst hP hw hK
    obtain ⟨xs, x, hq, hx⟩ := hg
    obtain ⟨its, rv, p, hz⟩ := I.list hq
    obtain ⟨u, hu, ru⟩ := rv.get hx
    obtain ⟨f0, f1, f2, f3, f4, f5⟩ := hf it (by simp)
    refine wpAny_pyNext_list_item st p.isList (x := u) (by simpa using hu) fun h' st' sb => ?_
    have I1 : Inv X pins σ H { s with heap := h' } := I.turned (t' := s.toks) (fun b o hb e => (sb.2 b hb).trans e) f0 f1 f3 f4 f5
    obtain ⟨o, e, c, d⟩ := id st'
    exact ⟨u, rfl, go_of (s := { s with heap := h' }) e c d (by decide) ⟨x, H, I1, ru, ⟨rfl, fun ys hy => by rw [I.list_inj hy hq]; exact hx⟩, st', fun b hb => (hf b hb).1⟩⟩
  done := by
    intro X hP hw hK hc i pins s σ H E I hf st hg
    subst hP hw hK
    obtain ⟨xs, hq, hx⟩ := hg
    obtain ⟨its, rv, p, hz⟩ := I.list hq
    obtain ⟨f0, f1, f2, f3, f4, f5⟩ := hf it (by simp)
    have hl := rv.length
    exact wpAny_pyNext_list_end (I.ok.hd hc) st p.isList (by simp; omega) fun h' eb => ⟨rfl, I.turned (t' := s.toks) (fun b o hb e => eb b o hb e) f0 f1 f3 f4 f5⟩
  self := fun _ _ _ _ _ st h => wpAny_pyIter_listiter st h
theorem turn_range {P : Program} {w : World} {K : PySem.W.Frag} {tg : Expr} (it : Addr) (lo : Int) (n : Nat) : Turn P w K tg (Itr lo n) [it] it (fun i h => IsRangeIter h it (lo + (i : Nat) * 1) ((n : Int) - (i : Nat)) 1) where
  mem := by simp
  obj := fun i h st b hb => by
    have e : b = it := by simpa using hb
    subst e
    exact ⟨_, st, fun v z => by
      have z' : Data.fields _ = Data.cell v := z
      cases z'⟩
  keep := fun i h h' st k => k it (by simp) _ st
  item := by
    intro X hP hw hK hc i pins s σ H E I hf st hg
    subst hP hw hK
    obtain ⟨f0, f1, f2, f3, f4, f5⟩ := hf it (by simp)
    have W := Walks.range (prog := X.prog) (w := X.w) (I.ok.hd hc) it lo 1 n
    refine W.item i s _ _ hg st fun v h' tk hv st' kk => ?_
    obtain ⟨t, rfl⟩ := hv
    have I1 : Inv X pins σ H { s with heap := h', toks := tk } := I.turned (fun b o hb e => kk b o (by simpa using hb) e) f0 f1 f3 f4 f5
    refine ⟨_, rfl, go_of (s := { s with heap := h', toks := tk }) (n := "range_iterator") st' rfl rfl (by decide) ⟨.int (lo + i), H, I1, ⟨t, ?_⟩, ⟨rfl, rfl⟩, st', fun b hb => (hf b hb).1⟩⟩
    rw [Int.mul_one]
  done := by
    intro X hP hw hK hc i pins s σ H E I hf st hg
    subst hP hw hK
    obtain ⟨f0, f1, f2, f3, f4, f5⟩ := hf it (by simp)
    exact wpAny_pyNext_range_end (I.ok.hd hc) st (by have : n ≤ i := hg; omega) fun h' eb => ⟨rfl, I.turned (t' := s.toks) (fun b o hb e => eb b o hb e) f0 f1 f3 f4 f5⟩
  self := fun _ _ _ _ _ st h => wpAny_pyIter_rangeiter st h
end L2

namespace L2
open PySem PySem.Spec PyProof.Rows
section
variable {X : Cx} {tg : Expr}
noncomputable def iList (K : PySem.W.Frag) (tl : TE) : TI := fun σ H R => tl σ H fun x H1 => ∃ a, x = .ref a ∧ (∃ xs, SqL K H1 a xs) ∧ R (Itl K a) H1
theorem pi_list {l : Expr} {tl : TE} (hl : PE X l tl) : PI X tg l (iList X.K tl) := by
  intro pins s σ H R I h
  refine thn (hl pins s σ H _ I h) ?_
  rintro v s1 ⟨x, H1, I1, r1, q1⟩
  obtain ⟨a, e, ⟨xs, hq⟩, q⟩ := q1
  subst e
  cases r1
  obtain ⟨its, rv, p, hz⟩ := I1.list hq
  refine wpAny_pyIter_list p.isList ?_
  refine ⟨s1.heap.objs.size, [s1.heap.objs.size], _, _, H1, rfl, I1.kept (t' := s1.toks) fun b o e => Heap.get?_push_of_some _ e, turn_list a _, ⟨_, Heap.get?_push_size _ rfl, rfl, rfl⟩, fun b hb => ?_, q⟩
  have e : b = s1.heap.objs.size := by simpa using hb
  subst e
  exact I1.fpOk (Nat.le_refl _) (I1.hok.fresh (Nat.le_refl _))
theorem range_it {pins : List (Addr × Obj)} {σ : St} {H : Hp} {s : Shared} {R : It → Hp → Prop} {E : Value → Shared → Prop} {lo hi : Int} {t u v : Tok} {tk : Nat} (I : Inv X pins σ H s) (h1 : -(2 ^ 62) ≤ lo) (h2 : lo < 2 ^ 62) (h3 : -(2 ^ 62) ≤ hi) (h4 : hi < 2 ^ 62)
    (q : R (Itr lo (hi - lo).toNat) H) : wpAny (model X.prog X.w) X.A (pyIter (.ref s.heap.objs.size)) (PIE X pins σ tg R) E { s with heap := s.heap.push { cls := .type "range", data := .fields #[.int lo t, .int hi u, .int 1 v] }, toks := tk } := by
  refine wpAny_pyIter_range (IsRange.new ..) (small_one h1 h2 h3 h4) ?_
  have I1 : Inv X pins σ H { s with heap := s.heap.push { cls := .type "range", data := .fields #[.int lo t, .int hi u, .int 1 v] }, toks := tk } := I.kept fun b o e => Heap.get?_push_of_some _ e
  refine ⟨(s.heap.push { cls := .type "range", data := .fields #[.int lo t, .int hi u, .int 1 v] }).objs.size, [(s.heap.push { cls := .type "range", data := .fields #[.int lo t, .int hi u, .int 1 v] }).objs.size], _, _, H, rfl,
    I1.kept (t' := tk) fun b o e => Heap.get?_push_of_some _ e, turn_range _ lo (hi - lo).toNat, ?_, fun b hb => ?_, q⟩
  · have e1 : lo + ((0 : Nat) : Int) * 1 = lo := by simp
    have e2 : (((hi - lo).toNat : Nat) : Int) - ((0 : Nat) : Int) = Builtin.Range.rangeSize lo hi 1 := by rw [rangeSize_one]; split <;> omega
    show IsRangeIter _ _ (lo + ((0 : Nat) : Int) * 1) ((((hi - lo).toNat : Nat) : Int) - ((0 : Nat) : Int)) 1
    rw [e1, e2]
    exact Heap.get?_push_size _ rfl
  · have e : b = (s.heap.push { cls := .type "range", data := .fields #[.int lo t, .int hi u, .int 1 v] }).objs.size := by simpa using hb
    subst e
    exact I1.fpOk (Nat.le_refl _) (I1.hok.fresh (Nat.le_refl _))
noncomputable def iRng1 (ta : TA) : TI := fun σ H R => ta σ H fun vs H1 => ∃ j : Int, vs = [.int j] ∧ -(2 ^ 62) ≤ j ∧ j < 2 ^ 62 ∧ R (Itr 0 j.toNat) H1
theorem pi_range1 {a : Expr} {ta : TA} {p pos : Pos} (hg : Gl X "range") (hm : X.mg "range" = none) (ha : PA X [a] ta) (hs : starEach [a] X.env = [(false, eval a X.env)] := by rfl) : PI X tg (.Call (.Name "range" p) [a] [] pos) (iRng1 ta) := by
  intro pins s σ H R I h
  refine Call_ (ld_blt I hg hm boot_range (PyProof.Rows.callWith_type1 (thn (ha pos pins s σ H _ I h) ?_) hs rfl))
  rintro us s1 ⟨vs, H1, I1, r1, q1⟩
  obtain ⟨j, e, q1, q2, q⟩ := q1
  subst e
  cases r1 with
  | cons r rr =>
    cases rr
    obtain ⟨t, rfl⟩ := r
    exact call_range_1 (range_it I1 (by omega) (by omega) q1 q2 (by simpa using q))

noncomputable def tFor (wi : TI) (g : TG) (tb : TS) : TS := fun D σ H => wi σ H fun J H1 => ∃ W : Nat → Nat → St → Hp → Prop, (∃ m, W 0 m σ H1) ∧ ∀ i m σ H, W i m σ H →
  (J.stop i H ∧ D.nx σ H) ∨ (J.go i H ∧ ∃ N : St → Hp → Prop, (∀ σ' H', N σ' H' → ∃ m', m' < m ∧ W (i + 1) m' σ' H') ∧ ∀ x H', J.yld i H x H' → g x σ H' fun σ2 H2 => tb { D with nx := N, ct := N, bk := D.nx } σ2 H2)
noncomputable def pinsAt (fp : List Addr) (h : Heap) : List (Addr × Obj) := fp.filterMap fun b => (h.get? b).map fun o => (b, o)
theorem mem_pinsAt {fp : List Addr} {h : Heap} {b : Addr} {o : Obj} (hb : b ∈ fp) (e : h.get? b = some o) : (b, o) ∈ pinsAt fp h := List.mem_filterMap.mpr ⟨b, hb, by rw [e]; rfl⟩
theorem of_pinsAt {fp : List Addr} {h : Heap} {p : Addr × Obj} (hp : p ∈ pinsAt fp h) : p.1 ∈ fp ∧ h.get? p.1 = some p.2 := by
  obtain ⟨b, hb, e⟩ := List.mem_filterMap.mp hp
  cases q : h.get? b with
  | none => rw [q] at e; cases e
  | some o =>
    rw [q] at e
    have e' : (b, o) = p := Option.some.inj e
    subst e'
    exact ⟨hb, q⟩
theorem Inv.pinned {pins : List (Addr × Obj)} {σ : St} {H : Hp} {s : Shared} {fp : List Addr} (I : Inv X pins σ H s) (hf : ∀ b ∈ fp, FpOk X pins H b) (ho : ∀ b ∈ fp, ∃ o, s.heap.get? b = some o ∧ ∀ v, o.data ≠ .cell v) : Inv X (pins ++ pinsAt fp s.heap) σ H s :=
  I.pins_of fun p hp => (List.mem_append.mp hp).elim (fun z => I.pin p (List.mem_append_right _ z)) fun z => by
    obtain ⟨hb, e⟩ := of_pinsAt z
    obtain ⟨f0, f1, f2, _⟩ := hf p.1 hb
    obtain ⟨o, e', d⟩ := ho p.1 hb
    rw [e] at e'; cases e'
    exact ⟨e, f0, f1, f2, d⟩
theorem Inv.unpinned {pins pl : List (Addr × Obj)} {σ : St} {H : Hp} {s : Shared} (I : Inv X (pins ++ pl) σ H s) : Inv X pins σ H s := I.pins_of fun p hp => I.pin p (List.mem_append_right _ (List.mem_append_left _ hp))
theorem ps_for {iter : Expr} {body : List Stmt} {wi : TI} {g : TG} {tb : TS} {pos : Pos} (hp : PassesOwn (model X.prog X.w) X.A X.env X.xe) (hc : X.calm = true) (hi : PI X tg iter wi) (hg : PG X tg g) (hb : PSs X body tb)
    (hs : ∀ x, foldedSetIterable iter X.env x = pure x := by intro _; rfl) : PS X (.For tg iter body [] pos) (tFor wi g tb) := by
  intro pins s σ H D I h
  refine wpAny_For (thn (hi pins s σ H _ I h) fun v s1 h1 => thn h1 fun itv s2 h2 => ?_) hs
  obtain ⟨it, fp, tn, J, H2, e, I2, T, st2, f2, W, ⟨m0, w0⟩, turn⟩ := h2
  subst e
  -- what stays true of the iterator's objects through the loop
  have stat : ∀ {H' : Hp}, (∀ b ∈ fp, H' b = none) → ∀ b ∈ fp, FpOk X pins H' b := fun hn b hb => ⟨hn b hb, (f2 b hb).2⟩
  refine codeAny_forLoop_any (fun n s' => ∃ i σ' H', Inv X pins σ' H' s' ∧ tn i s'.heap ∧ (∀ b ∈ fp, H' b = none) ∧ W i n σ' H') ?_ m0 ⟨0, σ, H2, I2, st2, fun b hb => (f2 b hb).1, w0⟩
  rintro n s3 ⟨i, σ3, H3, I3, st3, fr3, w3⟩
  rcases turn i n σ3 H3 w3 with ⟨stop, qn⟩ | ⟨go, N, hN, step⟩
  · refine wpAny_passesOwn hp (thn (T.done X rfl rfl rfl hc i pins s3 σ3 H3 X.xe I3 (stat fr3) st3 stop) ?_)
    rintro r s4 ⟨hr, I4⟩
    subst hr
    exact wpAny_execs_nil ⟨σ3, H3, I4, qn⟩
  · refine wpAny_passesOwn hp (thn (T.item X rfl rfl rfl hc i pins s3 σ3 H3 X.xe I3 (stat fr3) st3 go) ?_)
    rintro r s4 ⟨u, hr, h4⟩
    subst hr
    refine wpAny_passesOwn hp (thn h4 ?_)
    rintro _ s5 ⟨x, H5, I5, r5, y5, st5, fr5⟩
    have I5' := I5.pinned (stat fr5) (T.obj _ _ st5)
    refine wpAny_passesOwn hp (thn (hg _ s5 σ3 H5 x u _ I5' r5 (step x H5 y5)) ?_)
    rintro _ s6 ⟨σ6, H6, I6, q6⟩
    refine wpAny_passesOwn hp (thn (hb _ s6 σ6 H6 _ I6 q6) fun f s7 q7 => ?_)
    have again : ∀ {σ7 : St} {H7 : Hp}, Inv X (pins ++ pinsAt fp s5.heap) σ7 H7 s7 → N σ7 H7 → ∃ m, m < n ∧ ∃ i σ' H', Inv X pins σ' H' s7 ∧ tn i s7.heap ∧ (∀ b ∈ fp, H' b = none) ∧ W i m σ' H' := fun {σ7 H7} I7 n7 => by
      obtain ⟨m', hm, w7⟩ := hN σ7 H7 n7
      refine ⟨m', hm, i + 1, σ7, H7, I7.unpinned, T.keep _ _ _ st5 fun b hb o e => (I7.pin (b, o) (List.mem_append_right _ (List.mem_append_right _ (mem_pinsAt hb e)))).1, fun b hb => ?_, w7⟩
      obtain ⟨o, e, d⟩ := T.obj _ _ st5 b hb
      exact (I7.pin (b, o) (List.mem_append_right _ (List.mem_append_right _ (mem_pinsAt hb e)))).2.1
    cases f with
    | next => obtain ⟨σ7, H7, I7, n7⟩ := q7; exact again I7 n7
    | cont => obtain ⟨σ7, H7, I7, n7⟩ := q7; exact again I7 n7
    | brk => obtain ⟨σ7, H7, I7, q7⟩ := q7; exact ⟨σ7, H7, I7.unpinned, q7⟩
    | ret v => obtain ⟨x7, σ7, H7, I7, r7, q7⟩ := q7; exact ⟨x7, σ7, H7, I7.unpinned, r7, q7⟩
end

end L2

namespace L2
open PySem PySem.Spec PyProof.Rows

noncomputable abbrev R2 := V → V → Hp → VK → Prop
noncomputable def OpR (X : Cx) (f : Value → Value → Sem Value) (r : R2) : Prop :=
  ∀ (pins : List (Addr × Obj)) (s : Shared) (σ : St) (H : Hp) (x y : V) (v u : Value) (Q : VK), Inv X pins σ H s → RelV x v → RelV y u → r x y H Q →
    wpAny (model X.prog X.w) X.A (f v u) (EP X pins σ Q) X.xe s
noncomputable def UnR (X : Cx) (f : Value → Sem Value) (r : V → Hp → VK → Prop) : Prop :=
  ∀ (pins : List (Addr × Obj)) (s : Shared) (σ : St) (H : Hp) (x : V) (v : Value) (Q : VK), Inv X pins σ H s → RelV x v → r x H Q →
    wpAny (model X.prog X.w) X.A (f v) (EP X pins σ Q) X.xe s
noncomputable def CallR (X : Cx) (f : Value) (r : List V → Hp → VK → Prop) : Prop :=
  ∀ (pins : List (Addr × Obj)) (s : Shared) (σ : St) (H : Hp) (xs : List V) (us : List Value) (Q : VK), Inv X pins σ H s → Vals xs us → r xs H Q →
    wpAny (model X.prog X.w) X.A (call f us) (EP X pins σ Q) X.xe s
noncomputable def TruR (X : Cx) (r : V → Hp → (Bool → Hp → Prop) → Prop) : Prop :=
  ∀ (pins : List (Addr × Obj)) (s : Shared) (σ : St) (H : Hp) (x : V) (v : Value) (Q : Bool → Hp → Prop), Inv X pins σ H s → RelV x v → r x H Q →
    wpAny (model X.prog X.w) X.A (truthy v) (TP X pins σ Q) X.xe s

noncomputable def tOp (r : R2) (ta tb : TE) : TE := fun σ H Q => ta σ H fun x H1 => tb σ H1 fun y H2 => r x y H2 Q
noncomputable def tUn (r : V → Hp → VK → Prop) (ta : TE) : TE := fun σ H Q => ta σ H fun x H1 => r x H1 Q
noncomputable def rI (C : Int → Int → Prop) (g : Int → Int → V) : R2 := fun x y H Q => ∃ i j, x = .int i ∧ y = .int j ∧ C i j ∧ Q (g i j) H
noncomputable def rI0 (g : Int → Int → V) : R2 := fun x y H Q => ∃ i j, x = .int i ∧ y = .int j ∧ Q (g i j) H
noncomputable def rU (g : Int → V) : V → Hp → VK → Prop := fun x H Q => ∃ i, x = .int i ∧ Q (g i) H

section
variable {X : Cx} {a b c : Expr} {ta tb tc : TE} {pos : Pos}

theorem binT (ha : PE X a ta) (hb : PE X b tb) {pins : List (Addr × Obj)} {s : Shared} {σ : St} {H : Hp} {R : V → V → Hp → Prop} (I : Inv X pins σ H s)
    (h : ta σ H fun x H1 => tb σ H1 fun y H2 => R x y H2) {Q : Value → Shared → Prop} {f : Value → Value → Sem Value}
    (hf : ∀ v u s2 x y H2, Inv X pins σ H2 s2 → RelV x v → RelV y u → R x y H2 → wpAny (model X.prog X.w) X.A (f v u) Q X.xe s2) :
    wpAny (model X.prog X.w) X.A (eval a X.env) (fun v s₁ => wpAny (model X.prog X.w) X.A (eval b X.env) (fun u s₂ => wpAny (model X.prog X.w) X.A (f v u) Q X.xe s₂) X.xe s₁) X.xe s := by
  refine thn (ha pins s σ H _ I h) ?_
  rintro v s1 ⟨x, H1, I1, r1, q1⟩
  refine thn (hb pins s1 σ H1 _ I1 q1) ?_
  rintro u s2 ⟨y, H2, I2, r2, q2⟩
  exact hf v u s2 x y H2 I2 r1 r2 q2

theorem pe_op {op : Operator} {r : R2} (ho : OpR X (binaryOp op) r) (ha : PE X a ta) (hb : PE X b tb) : PE X (.BinOp a op b pos) (tOp r ta tb) := by
  intro pins s σ H Q I h
  exact wpAny_BinOp (binT ha hb I h fun v u s2 x y H2 I2 rx ry q => ho pins s2 σ H2 x y v u Q I2 rx ry q)
theorem pe_un {op : UnaryOp} {r : V → Hp → VK → Prop} (ho : UnR X (unaryOp op) r) (ha : PE X a ta) : PE X (.UnaryOp op a pos) (tUn r ta) := by
  intro pins s σ H Q I h
  exact UnaryOp_ (thn (ha pins s σ H _ I h) fun v s1 ⟨x, H1, I1, r1, q1⟩ => ho pins s1 σ H1 x v Q I1 r1 q1)

theorem opI {f : Value → Value → Sem Value} {C : Int → Int → Prop} {g : Int → Int → Int}
    (rule : ∀ (i j : Int) (t u : Tok) (s : Shared) (Q : Value → Shared → Prop) (E : Value → Shared → Prop), C i j → Q (.int (g i j) s.toks) { s with toks := s.toks + 1 } → wpAny (model X.prog X.w) X.A (f (.int i t) (.int j u)) Q E s) :
    OpR X f (rI C fun i j => .int (g i j)) := by
  intro pins s σ H x y v u Q I rx ry h
  obtain ⟨i, j, rfl, rfl, hc, q⟩ := h
  obtain ⟨t, rfl⟩ := rx
  obtain ⟨t', rfl⟩ := ry
  exact rule i j t t' s _ _ hc ⟨.int (g i j), H, I.tok _, ⟨_, rfl⟩, q⟩
theorem opI0 {f : Value → Value → Sem Value} {g : Int → Int → Int}
    (rule : ∀ (i j : Int) (t u : Tok) (s : Shared) (Q : Value → Shared → Prop) (E : Value → Shared → Prop), Q (.int (g i j) s.toks) { s with toks := s.toks + 1 } → wpAny (model X.prog X.w) X.A (f (.int i t) (.int j u)) Q E s) :
    OpR X f (rI0 fun i j => .int (g i j)) := by
  intro pins s σ H x y v u Q I rx ry h
  obtain ⟨i, j, rfl, rfl, q⟩ := h
  obtain ⟨t, rfl⟩ := rx
  obtain ⟨t', rfl⟩ := ry
  exact rule i j t t' s _ _ ⟨.int (g i j), H, I.tok _, ⟨_, rfl⟩, q⟩
theorem opB0 {f : Value → Value → Sem Value} {g : Int → Int → Bool}
    (rule : ∀ (i j : Int) (t u : Tok) (s : Shared) (Q : Value → Shared → Prop) (E : Value → Shared → Prop), Q (.bool (g i j)) s → wpAny (model X.prog X.w) X.A (f (.int i t) (.int j u)) Q E s) :
    OpR X f (rI0 fun i j => .bl (g i j)) := by
  intro pins s σ H x y v u Q I rx ry h
  obtain ⟨i, j, rfl, rfl, q⟩ := h
  obtain ⟨t, rfl⟩ := rx
  obtain ⟨t', rfl⟩ := ry
  exact rule i j t t' s _ _ ⟨.bl (g i j), H, I, rfl, q⟩

noncomputable def CDiv (i j : Int) : Prop := 0 < j ∧ j < 1073741824
noncomputable def CMul (i j : Int) : Prop := (-(2 ^ 64) < i ∧ i < 2 ^ 64) ∨ (-(2 ^ 64) < j ∧ j < 2 ^ 64)
theorem CMul.ok {i j : Int} (h : CMul i j) : IntMulOk i j := by
  rcases h with ⟨h1, h2⟩ | ⟨h1, h2⟩
  · exact .of_left (intBits_le_64 h1 h2)
  · exact .of_right (intBits_le_64 h1 h2)

theorem op_add : OpR X (binaryOp .Add) (rI0 fun i j => .int (i + j)) := opI0 fun _ _ _ _ _ _ _ q => add_int q
theorem op_sub : OpR X (binaryOp .Sub) (rI0 fun i j => .int (i - j)) := opI0 fun _ _ _ _ _ _ _ q => sub_int q
theorem op_mul : OpR X (binaryOp .Mult) (rI CMul fun i j => .int (i * j)) := opI fun _ _ _ _ _ _ _ hc q => mul_int q hc.ok
theorem op_fdiv : OpR X (binaryOp .FloorDiv) (rI CDiv fun i j => .int (i / j)) := opI fun i j _ _ _ _ _ hc q => by
  have h1 : (0 : Int) < j := hc.1
  have h2 : j < 1073741824 := hc.2
  exact floordiv_int (by omega) (by rw [Int.fdiv_eq_ediv_of_nonneg i (by omega)]; exact q) (.inl (PyProof.noPylong_small (by omega)))
theorem op_mod : OpR X (binaryOp .Mod) (rI (fun _ j => 0 < j) fun i j => .int (i % j)) := opI fun i j _ _ _ _ _ hc q => by
  have h1 : (0 : Int) < j := hc
  exact mod_int' (by omega) (by rw [Int.fmod_eq_emod_of_nonneg i (by omega)]; exact q)

theorem unI {f : Value → Sem Value} {g : Int → Int}
    (rule : ∀ (i : Int) (t : Tok) (s : Shared) (Q : Value → Shared → Prop) (E : Value → Shared → Prop), Q (.int (g i) s.toks) { s with toks := s.toks + 1 } → wpAny (model X.prog X.w) X.A (f (.int i t)) Q E s) :
    UnR X f (rU fun i => .int (g i)) := by
  intro pins s σ H x v Q I rx h
  obtain ⟨i, rfl, q⟩ := h
  obtain ⟨t, rfl⟩ := rx
  exact rule i t s _ _ ⟨.int (g i), H, I.tok _, ⟨_, rfl⟩, q⟩
theorem un_neg : UnR X (unaryOp .USub) (rU fun i => .int (-i)) := unI fun _ _ _ _ _ q => neg_int q

end

section
variable {X : Cx} {a b c : Expr} {ta tb tc : TE} {pos : Pos}
theorem fin_bl {pins : List (Addr × Obj)} {σ : St} {H : Hp} {s : Shared} {Q : VK} {k k' : Bool} (I : Inv X pins σ H s) (q : Q (.bl k) H) (e : k = k') : EP X pins σ Q (.bool k') s := by
  subst e
  exact ⟨.bl k, H, I, rfl, q⟩

theorem op_lt : OpR X (compareOp .Lt) (rI0 fun i j => .bl (decide (i < j))) := opB0 fun _ _ _ _ _ _ _ q => lt_int q
theorem op_le : OpR X (compareOp .LtE) (rI0 fun i j => .bl (decide (i ≤ j))) := opB0 fun _ _ _ _ _ _ _ q => le_int q
theorem op_gt : OpR X (compareOp .Gt) (rI0 fun i j => .bl (decide (j < i))) := opB0 fun _ _ _ _ _ _ _ q => gt_int q
theorem op_ge : OpR X (compareOp .GtE) (rI0 fun i j => .bl (decide (j ≤ i))) := opB0 fun _ _ _ _ _ _ _ q => ge_int q

theorem OpR.or {f : Value → Value → Sem Value} {r r' : R2} (h : OpR X f r) (h' : OpR X f r') : OpR X f (fun x y H Q => r x y H Q ∨ r' x y H Q) := by
  intro pins s σ H x y v u Q I rx ry q
  rcases q with q | q
  · exact h pins s σ H x y v u Q I rx ry q
  · exact h' pins s σ H x y v u Q I rx ry q

theorem nomark (b : Expr) {op : CmpOp} (h : op ≠ .In := by decide) (h2 : op ≠ .NotIn := by decide) : behindInMarks op b = false := by
  have e1 : (op == CmpOp.In) = false := by cases op <;> first | rfl | exact absurd rfl h
  have e2 : (op == CmpOp.NotIn) = false := by cases op <;> first | rfl | exact absurd rfl h2
  cases b <;> simp [behindInMarks, e1, e2]
theorem pe_cmpR {op : CmpOp} {r : R2} (ho : OpR X (compareOp op) r) (ha : PE X a ta) (hb : PE X b tb) (hm : behindInMarks op b = false) : PE X (.Compare a [op] [b] pos) (tOp r ta tb) := by
  intro pins s σ H Q I h
  exact wpAny_Compare1 (binT ha hb I h fun v u s2 x y H2 I2 rx ry q => ho pins s2 σ H2 x y v u Q I2 rx ry q) hm
noncomputable def tTest (t : TE) : TT := fun σ H Q => t σ H fun x H' => ∃ k, x = .bl k ∧ Q k H'
theorem pt_cmpR {op : CmpOp} {r : R2} (ho : OpR X (compareOp op) r) (ha : PE X a ta) (hb : PE X b tb) (hm : behindInMarks op b = false) : PT X (.Compare a [op] [b] pos) (tTest (tOp r ta tb)) := by
  intro pins s σ H Q I h
  refine wpAny_isTrue_Compare1 (thn (ha pins s σ H _ I h) fun v s1 ⟨x, H1, I1, r1, q1⟩ => thn (hb pins s1 σ H1 _ I1 q1) fun u s2 ⟨y, H2, I2, r2, q2⟩ =>
    thn (ho pins s2 σ H2 x y v u _ I2 r1 r2 q2) fun c s3 ⟨z, H3, I3, r3, k, e, q3⟩ => ?_) hm
  subst e
  cases r3
  exact wpAny_truthy_bool ⟨H3, I3, q3⟩
noncomputable def tChain (r r' : R2) (ta tb tc : TE) : TE := fun σ H Q => ta σ H fun x H1 => tb σ H1 fun y H2 => r x y H2 fun z H3 => ∃ k, z = .bl k ∧
  (if k = true then tc σ H3 fun w' H4 => r' y w' H4 Q else Q (.bl false) H3)
theorem pe_chain {op op' : CmpOp} {r r' : R2} (ho : OpR X (compareOp op) r) (ho' : OpR X (compareOp op') r') (ha : PE X a ta) (hb : PE X b tb) (hc : PE X c tc)
    (hm : lastMarks [op, op'] [b, c] = false := by with_unfolding_all rfl) : PE X (.Compare a [op, op'] [b, c] pos) (tChain r r' ta tb tc) := by
  intro pins s σ H Q I h
  refine Compare_chain (thn (ha pins s σ H _ I h) fun v s1 ⟨x, H1, I1, r1, q1⟩ => chain_link (thn (hb pins s1 σ H1 _ I1 q1) fun u s2 ⟨y, H2, I2, r2, q2⟩ =>
    thn (ho pins s2 σ H2 x y v u _ I2 r1 r2 q2) fun d s3 ⟨z, H3, I3, r3, k, e, q3⟩ => ?_)) hm
  subst e
  cases r3
  refine wpAny_truthy_bool ?_
  cases k with
  | false => exact ite_ff ⟨.bl false, H3, I3, rfl, q3⟩
  | true => exact ite_tt (chain_last (thn (hc pins s3 σ H3 _ I3 q3) fun w' s4 ⟨z', H4, I4, r4, q4⟩ => ho' pins s4 σ H4 y z' u w' Q I4 r2 r4 q4))

noncomputable def TruV (K : PySem.W.Frag) (x : V) (H : Hp) (k : Bool) : Prop :=
  match x with
  | .non => k = false
  | .bl b => k = b
  | .int i => k = (i != 0)
  | .str y => y.length ≤ sizeLine ∧ k = ((y.length : Int) != 0)
  | .byt y => y.size ≤ sizeLine ∧ k = ((y.size : Int) != 0)
  | .ref p => (∃ xs, SqL K H p xs ∧ k = !xs.isEmpty) ∨ (∃ xs, SqT K H p xs ∧ k = !xs.isEmpty) ∨ ∃ kvs, H p = some (.dK kvs) ∧ k = !kvs.isEmpty
  | _ => False
theorem isEmpty_kv {κ : Type} {kvs : List (κ × V)} {vs : List (κ × Value)} (r : KV kvs vs) : (!vs.isEmpty) = !kvs.isEmpty := by
  cases r <;> rfl
theorem isEmpty_of {xs : List V} {its : List Value} (r : Vals xs its) : (!its.toArray.isEmpty) = !xs.isEmpty := by
  cases r <;> simp
theorem line63 : (sizeLine : Nat) < 2 ^ 63 := by rw [sizeLine_eq]; decide
theorem tru_ok : TruR X (fun x H Q => ∃ k, TruV X.K x H k ∧ Q k H) := by
  intro pins s σ H x v Q I rx h
  obtain ⟨k, e, q⟩ := h
  have hl := line63
  have hs : sizeLine = 16777216 := sizeLine_eq
  cases x with
  | non =>
    cases rx
    have e' : k = false := e
    subst e'
    exact truthy_none ⟨H, I, q⟩
  | bl b =>
    cases rx
    have e' : k = b := e
    subst e'
    exact wpAny_truthy_bool ⟨H, I, q⟩
  | int i =>
    obtain ⟨t, rfl⟩ := rx
    have e' : k = (i != 0) := e
    subst e'
    exact PySem.P.truthy_int ⟨H, I, q⟩
  | str y =>
    obtain ⟨t, rfl⟩ := rx
    obtain ⟨hy, e'⟩ : y.length ≤ sizeLine ∧ k = ((y.length : Int) != 0) := e
    subst e'
    exact PySem.P.truthy_str (by omega) ⟨H, I.tok _, q⟩
  | byt y =>
    obtain ⟨t, rfl⟩ := rx
    obtain ⟨hy, e'⟩ : y.size ≤ sizeLine ∧ k = ((y.size : Int) != 0) := e
    subst e'
    exact PySem.W.truthy_bytes (by omega) ⟨H, I.tok _, q⟩
  | ref p =>
    cases rx
    have e' : (∃ xs, SqL X.K H p xs ∧ k = !xs.isEmpty) ∨ (∃ xs, SqT X.K H p xs ∧ k = !xs.isEmpty) ∨ ∃ kvs, H p = some (.dK kvs) ∧ k = !kvs.isEmpty := e
    rcases e' with ⟨xs, hx, e'⟩ | ⟨xs, hx, e'⟩ | ⟨kvs, hx, e'⟩
    · subst e'
      obtain ⟨its, r, pl, hz⟩ := I.list hx
      have hlen := r.length
      exact wpAny_truthy_list pl.isList (by simp only [List.size_toArray]; omega) ⟨H, I.tok _, by rw [isEmpty_of r]; exact q⟩
    · subst e'
      obtain ⟨its, r, pl, hz⟩ := I.tuple hx
      have hlen := r.length
      exact truthy_tuple pl (by simp only [List.size_toArray]; omega) ⟨H, I.tok _, by rw [isEmpty_of r]; exact q⟩
    · subst e'
      obtain ⟨hz, hS, vs, r, m⟩ : kvs.length ≤ sizeLine ∧ (p == sysModules) = false ∧ ∃ vs, KV kvs vs ∧ s.heap.DictOf (mixKind X.prog X.w) p vs := I.hok p _ hx
      have hlen : kvs.length = vs.length := Paired.length r
      exact wpAny_truthy_dict hS m (by omega) ⟨H, I.tok _, by rw [isEmpty_kv r]; exact q⟩
  | _ => exact (show False from e).elim

theorem op_add_str : OpR X (binaryOp .Add) (fun x y H Q => ∃ i j, x = .str i ∧ y = .str j ∧ i.length + j.length ≤ sizeLine ∧ Q (.str (i ++ j)) H) := by
  intro pins s σ H x y v u Q I rx ry h
  obtain ⟨i, j, rfl, rfl, hz, q⟩ := h
  obtain ⟨t, rfl⟩ := rx
  obtain ⟨t', rfl⟩ := ry
  exact add_str (fun t' tk => ⟨.str (i ++ j), H, I.tok _, ⟨_, rfl⟩, q⟩) hz

theorem vals1 {x : V} {us : List Value} (r : Vals [x] us) : ∃ u, us = [u] ∧ RelV x u := by
  cases r with
  | cons r1 r2 => cases r2; exact ⟨_, rfl, r1⟩
theorem vals2 {x y : V} {us : List Value} (r : Vals [x, y] us) : ∃ u w', us = [u, w'] ∧ RelV x u ∧ RelV y w' := by
  cases r with
  | cons r1 r2 =>
    cases r2 with
    | cons r3 r4 => cases r4; exact ⟨_, _, rfl, r1, r3⟩
noncomputable def LenV (K : PySem.W.Frag) (x : V) (H : Hp) (n : Nat) : Prop :=
  match x with
  | .str y => y.length ≤ sizeLine ∧ n = y.length
  | .byt y => y.size ≤ sizeLine ∧ n = y.size
  | .ref p => (∃ xs, SqL K H p xs ∧ n = xs.length) ∨ ∃ xs, SqT K H p xs ∧ n = xs.length
  | _ => False
theorem call_len : CallR X (.builtin "len") (fun xs H Q => ∃ x n, xs = [x] ∧ LenV X.K x H n ∧ Q (.int n) H) := by
  intro pins s σ H xs us Q I r h
  obtain ⟨x, n, rfl, e, q⟩ := h
  obtain ⟨u, rfl, rx⟩ := vals1 r
  have hl := line63
  have hs : sizeLine = 16777216 := sizeLine_eq
  cases x with
  | str y =>
    obtain ⟨t, rfl⟩ := rx
    obtain ⟨hy, e'⟩ : y.length ≤ sizeLine ∧ n = y.length := e
    subst e'
    exact len_str (by omega) ⟨.int _, H, I.tok _, ⟨_, rfl⟩, q⟩
  | byt y =>
    obtain ⟨t, rfl⟩ := rx
    obtain ⟨hy, e'⟩ : y.size ≤ sizeLine ∧ n = y.size := e
    subst e'
    exact PySem.W.len_bytes (by omega) ⟨.int _, H, I.tok _, ⟨_, rfl⟩, q⟩
  | ref p =>
    cases rx
    have e' : (∃ xs, SqL X.K H p xs ∧ n = xs.length) ∨ ∃ xs, SqT X.K H p xs ∧ n = xs.length := e
    rcases e' with ⟨xs, hx, e'⟩ | ⟨xs, hx, e'⟩
    · subst e'
      obtain ⟨its, r', pl, hz⟩ := I.list hx
      have hlen := r'.length
      exact Calls.call_len_list pl.isList (by simp only [List.size_toArray]; omega) ⟨.int xs.length, H, I.tok _, ⟨_, by simp only [List.size_toArray]; rw [hlen]⟩, q⟩
    · subst e'
      obtain ⟨its, r', pl, hz⟩ := I.tuple hx
      have hlen := r'.length
      exact len_tuple pl (by simp only [List.size_toArray]; omega) ⟨.int xs.length, H, I.tok _, ⟨_, by simp only [List.size_toArray]; rw [hlen]⟩, q⟩
  | _ => exact (show False from e).elim
end
end L2

namespace L2
open PySem PySem.Spec PyProof.Rows

structure ObjM (h : Heap) (x dx C : Addr) (mA : Str → Option Value) : Prop where
  obj : h.get? x = some (PySem.W.instObj C dx)
  ns : h.Ns1 dx mA
  ne : dx ≠ x

theorem lookIn_ns {h : Heap} {dx : Addr} {mA : Str → Option Value} (n : h.Ns1 dx mA) : ∃ od, h.get? dx = some od ∧ ∀ name, PySem.W.lookIn name od = some (mA name) := by
  obtain ⟨o, es, ep, ho, hd, hk, _, hm⟩ := n
  refine ⟨o, ho, fun name => ?_⟩
  have e := hm name
  unfold nsFind findBy at e
  rw [← Array.find?_toList] at e
  unfold PySem.W.lookIn
  rw [hd]
  dsimp only
  split
  · rename_i y q
    rw [q] at e
    exact congrArg some e
  · rename_i q
    rw [q] at e
    have a : es.toList.any (·.refKey) = false := by
      rw [List.any_eq_false]
      intro y hy
      obtain ⟨z, t, hkey⟩ := hk y (Array.mem_toList_iff.mp hy)
      simp [DictEntry.refKey, hkey]
    have a' : ¬ es.toList.any (·.refKey) = true := by rw [a]; exact Bool.false_ne_true
    rw [if_neg a']
    exact congrArg some e

theorem ObjM.look {h : Heap} {x dx C : Addr} {mA : Str → Option Value} (I : ObjM h x dx C mA) : ∃ od, PySem.W.InstAt h x (PySem.W.instObj C dx) C (some od) ∧ ∀ name, PySem.W.lookIn name od = some (mA name) :=
  let ⟨od, ho, hl⟩ := lookIn_ns I.ns
  ⟨od, ⟨I.obj, rfl, rfl, ho⟩, hl⟩

section
variable {prog : Program} {w : World} {A : Around} {E : Value → Shared → Prop} {s : Shared} {K : PySem.W.Frag} {x dx C f : Addr} {mA : Str → Option Value} {name : Str} {v : Value}

end

noncomputable def putF (f : Str) (v : V) : List (Str × V) → List (Str × V)
  | [] => [(f, v)]
  | (g, x) :: r => if g = f then (g, v) :: r else (g, x) :: putF f v r

section
variable {P : Program} {w : World} {H H' : Hp} {h h' : Heap} {a C dx : Addr} {fs fs' : List (Str × V)}
theorem ins_get (hok : HOk P w H h) (e : H a = some (.ins C dx fs)) : ∃ mA, ObjM h a dx C mA ∧ (∀ f, RelO (fs.lookup f) (mA f)) ∧ PySem.Within mA (fs.map (·.1)) ∧ fs.length ≤ 1000 ∧ H dx = some (.own a) := by
  obtain ⟨d, z, ne, ob, mA, n, r, q⟩ := (show ObjOk P w H h a (.ins C dx fs) from hok a _ e)
  exact ⟨mA, ⟨ob, n, ne⟩, r, q, z, d⟩
end

structure Cls (K : PySem.W.Frag) (C : Addr) : Prop where
  pg : PySem.W.plainGet K C Str.empty = true
  hd : PySem.W.hasDictIn K C = true
  po : PySem.W.plainOver K C = true
  sa : PySem.W.findIn K (.ref C) "__setattr__" = some (some (.builtin "object.__setattr__"))
theorem Cls.get {K : PySem.W.Frag} {C : Addr} (c : Cls K C) (f : Str) : PySem.W.plainGet K C f = true := c.pg
structure Con (K : PySem.W.Frag) (C : Addr) (f : Str) (v : V) (u : Value) : Prop where
  at_ : PySem.W.findIn K (.ref C) f = some (some u)
  rel : RelV v u
  get : PySem.W.specialIn K u "__get__" = some none
  cp : PySem.W.copiedNames.contains f = false
structure Meth (K : PySem.W.Frag) (C : Addr) (m : Str) (f : Addr) : Prop where
  at_ : PySem.W.findIn K (.ref C) m = some (some (.ref f))
  fn : PySem.W.isFn K (.ref f) = true
  kp : PySem.W.keepIn K (.ref f) = true

section
variable {X : Cx} {pins : List (Addr × Obj)} {σ : St} {H : Hp} {s : Shared} {a C dx : Addr} {fs : List (Str × V)} {f : Str} {v : V} {A : Around} {E : Value → Shared → Prop}

end

section
variable {X : Cx} {o e value : Expr} {f : Str} {pos pos' tpos : Pos} {ta tv : TE}

end

section
variable {X : Cx} {pins : List (Addr × Obj)} {σ : St} {H : Hp} {s : Shared} {A : Around} {E : Value → Shared → Prop} {Q : Value → Shared → Prop} {c : Value} {b : Bool}
inductive TyOf (K : PySem.W.Frag) (H : Hp) : V → Value → Prop where
  | non : TyOf K H .non (.type "NoneType")
  | bl (x : Bool) : TyOf K H (.bl x) (.type "bool")
  | int (i : Int) : TyOf K H (.int i) (.type "int")
  | str (x : Str) : TyOf K H (.str x) (.type "str")
  | flt (x : UInt64) : TyOf K H (.flt x) (.type "float")
  | lst {a : Addr} {xs : List V} (e : H a = some (.lst xs)) : TyOf K H (.ref a) (.type "list")
  | frz {a : Addr} {o : Obj} {xs : List V} (e : H a = some (.frz o (.lst xs))) : TyOf K H (.ref a) (.type "list")
  | tup {a : Addr} {xs : List V} (e : H a = some (.tup xs)) : TyOf K H (.ref a) (.type "tuple")
  | dK {a : Addr} {kvs : List (Key × V)} (e : H a = some (.dK kvs)) : TyOf K H (.ref a) (.type "dict")
  | dT {a : Addr} {kvs : List (List Key × V)} (e : H a = some (.dT kvs)) : TyOf K H (.ref a) (.type "dict")
  | ins {a C dx : Addr} {fs : List (Str × V)} (e : H a = some (.ins C dx fs)) (cl : Cls K C) (ha : PySem.W.findIn K (.ref C) "__class__" = some (some (.builtin "object.__class__")))
      (hn : PySem.W.specialIn K (.builtin "object.__class__") "__get__" = some (some (.builtin "getset_descriptor.__get__"))) (htk : PySem.W.takesIn K (.builtin "object.__class__") = some true)
      (hm : PySem.W.mroIn K C (.type "object") = some true) : TyOf K H (.ref a) (.ref C)
theorem isinst_ok {x : V} {u t : Value} (I : Inv X pins σ H s) (rx : RelV x u) (ty : TyOf X.K H x t) (e : PySem.W.kitOne X.K t c = some b) (h : ∀ tk, Q (.bool b) { s with toks := tk }) :
    wpAny (model X.prog X.w) A (call (.builtin "isinstance") [u, c]) Q E s := by
  cases ty with
  | non => cases (show u = Value.none from rx); exact PySem.W.kia_one PySem.W.kitx_none I.kIn True.intro e (fun z => nomatch z) h
  | bl y => cases (show u = Value.bool y from rx); exact PySem.W.kia_one PySem.W.kitx_bool I.kIn True.intro e (fun z => nomatch z) h
  | int i => obtain ⟨t, q⟩ := (show ∃ t, u = Value.int i t from rx); cases q; exact PySem.W.kia_one PySem.W.kitx_int I.kIn True.intro e (fun z => nomatch z) h
  | str y => obtain ⟨t, q⟩ := (show ∃ t, u = Value.str y t from rx); cases q; exact PySem.W.kia_one PySem.W.kitx_str I.kIn True.intro e (fun z => nomatch z) h
  | flt y => obtain ⟨t, q⟩ := (show ∃ t, u = Value.float y t from rx); cases q; exact PySem.W.kia_one PySem.W.kitx_float I.kIn True.intro e (fun z => nomatch z) h
  | @lst a xs ea =>
    cases (show u = Value.ref a from rx)
    obtain ⟨_, _, n, _, h1⟩ := (show ObjOk X.prog X.w H s.heap a (.lst xs) from I.hok a _ ea)
    exact PySem.W.kia_one PySem.W.kitx_list I.kIn ⟨_, h1, rfl⟩ e (fun z => nomatch z) h
  | @frz a ob xs ea =>
    cases (show u = Value.ref a from rx)
    obtain ⟨_, _, _, n, _, h1⟩ := (show ObjOk X.prog X.w H s.heap a (.frz ob (.lst xs)) from I.hok a _ ea)
    exact PySem.W.kia_one PySem.W.kitx_list I.kIn ⟨_, h1, rfl⟩ e (fun z => nomatch z) h
  | @tup a xs ea =>
    cases (show u = Value.ref a from rx)
    obtain ⟨_, _, _, p⟩ := (show ObjOk X.prog X.w H s.heap a (.tup xs) from I.hok a _ ea)
    obtain ⟨o, h1, h2, _⟩ := p
    exact PySem.W.kia_one PySem.W.kitx_tuple I.kIn ⟨o, h1, h2⟩ e (fun z => nomatch z) h
  | @dK a kvs ea =>
    cases (show u = Value.ref a from rx)
    obtain ⟨_, _, vs, _, p⟩ := (show ObjOk X.prog X.w H s.heap a (.dK kvs) from I.hok a _ ea)
    obtain ⟨o, es, ep, h1, h2, _⟩ := p
    exact PySem.W.kia_one PySem.W.kitx_dict I.kIn ⟨o, h1, h2.1⟩ e (fun z => nomatch z) h
  | @dT a kvs ea =>
    cases (show u = Value.ref a from rx)
    obtain ⟨_, _, xs, _, o, es, ep, h1, h2, _⟩ := (show ObjOk X.prog X.w H s.heap a (.dT kvs) from I.hok a _ ea)
    exact PySem.W.kia_one PySem.W.kitx_dict I.kIn ⟨o, h1, h2.1⟩ e (fun z => nomatch z) h
  | @ins a C dx fs ea cl ha hn htk hm =>
    cases (show u = Value.ref a from rx)
    obtain ⟨mA, O, _⟩ := ins_get I.hok ea
    obtain ⟨od, J, _⟩ := O.look
    exact PySem.W.kia_one (PySem.W.kitx_own (cl.get _) cl.hd ha hn htk hm) I.kIn J e (fun z => nomatch z) h
end
end L2

namespace L2
open PySem PySem.Spec PyProof.Rows

structure Room (k : Nat) (A : Around) : Prop where
  hd : A.handled = none
  dp : A.depth + 3 * k + 5 < recursionLimit
  un : A.units + 16 * k + 200 < cLine
theorem Room.mono {j k : Nat} {A : Around} (r : Room k A) (h : j ≤ k) : Room j A := ⟨r.hd, by have := r.dp; omega, by have := r.un; omega⟩
theorem Room.deeper {k : Nat} {A : Around} (r : Room (k + 1) A) (env : Env) : Room k (A.deeper env) :=
  ⟨r.hd, by have := r.dp; show A.depth + 1 + 3 * k + 5 < _; omega, by have := r.un; show A.units + 3 + 16 * k + 200 < _; omega⟩
theorem Room.depth {k : Nat} {A : Around} (r : Room k A) : A.depth < recursionLimit := by have := r.dp; omega
theorem Room.units {k : Nat} {A : Around} (r : Room k A) : A.units + 64 < cLine := by have := r.un; omega

noncomputable def tNil : TA := fun _ H Q => Q [] H
noncomputable def tCons (ta : TE) (tr : TA) : TA := fun σ H Q => ta σ H fun x H1 => tr σ H1 fun xs H2 => Q (x :: xs) H2
section
variable {X : Cx} {e : Expr} {es : List Expr} {te : TE} {t : TA} {pos : Pos}
theorem pa_nil : PA X [] tNil := fun _ _ _ _ H Q I h => Calls.spliced_nil ⟨[], H, I, .nil, h⟩
theorem pa_cons (ha : PE X e te) (hr : PA X es t) (hs : starEach (e :: es) X.env = (false, eval e X.env) :: starEach es X.env := by rfl) : PA X (e :: es) (tCons te t) := by
  intro pos pins s σ H Q I h
  rw [hs]
  show wpAny _ _ (spliced ((false, eval e X.env) :: backTo pos (starEach es X.env))) _ _ s
  refine Calls.spliced_cons (thn (ha pins s σ H _ I h) ?_)
  rintro u s1 ⟨x, H1, I1, r1, q1⟩
  exact thn (hr pos pins s1 σ H1 _ I1 q1) fun us s2 ⟨xs, H2, I2, r2, q2⟩ => ⟨x :: xs, H2, I2, .cons r1 r2, q2⟩

noncomputable def tTup (t : TA) : TE := fun σ H Q => t σ H fun xs H1 => xs.length ≤ sizeLine ∧ ∀ p, H1 p = none → Q (.ref p) (upd H1 p (.tup xs))
noncomputable def tLst (t : TA) : TE := fun σ H Q => t σ H fun xs H1 => xs.length ≤ sizeLine ∧ ∀ p, H1 p = none → Q (.ref p) (upd H1 p (.lst xs))
theorem pe_tup {x1} (h : PA X es t) : PE X (.Tuple es x1 pos) (tTup t) := by
  intro pins s σ H Q I hq
  refine wpAny_Tuple_spliced (thn (h pos pins s σ H _ I hq) fun us s1 ⟨xs, H1, I1, r, z, q⟩ => ⟨by rw [← r.length]; exact z, ?_⟩)
  have hf : H1 s1.heap.objs.size = none := I1.hok.fresh (Nat.le_refl _)
  refine ⟨.ref s1.heap.objs.size, upd H1 s1.heap.objs.size (.tup xs), I1.laid (t' := s1.toks) (fun b u e => Heap.get?_push_of_some _ e) (Nat.le_refl _) ?_, rfl, q _ hf⟩
  exact ⟨z, us, r, ⟨_, Heap.get?_push_size _ rfl, rfl, _, rfl⟩⟩
theorem pe_lst (h : PA X es t) : PE X (.List es pos) (tLst t) := by
  intro pins s σ H Q I hq
  refine wpAny_List_spliced (thn (h pos pins s σ H _ I hq) fun us s1 ⟨xs, H1, I1, r, z, q⟩ => ⟨by rw [← r.length]; exact z, ?_⟩)
  have hf : H1 s1.heap.objs.size = none := I1.hok.fresh (Nat.le_refl _)
  refine ⟨.ref s1.heap.objs.size, upd H1 s1.heap.objs.size (.lst xs), I1.laid (t' := s1.toks) (fun b u e => Heap.get?_push_of_some _ e) (Nat.le_refl _) ?_, rfl, q _ hf⟩
  exact ⟨z, us, 0, r, Heap.get?_push_size _ rfl⟩
end

noncomputable abbrev Sp := List V → Hp → VK → XK → Prop
noncomputable abbrev CXT := List Env → Hp → Shared → XK → Value → Shared → Prop

structure Env0 (P : Program) (w : World) (K : PySem.W.Frag) (mg : Str → Option Value) (base : Heap) (A : Around) (outer : List Env) (s : Shared) (H : Hp) : Prop where
  frames : A.frames = some outer
  mod : Mod K mg base
  bs : ∀ b o, base.get? b = some o → s.heap.get? b = some o ∧ H b = none
  bsz : base.objs.size ≤ s.heap.objs.size
  funs : s.heap.FunFrames base outer
  frf : ∀ b ∈ frs outer, H b = none
  hok : HOk P w H s.heap
  bare : AllBare s.gens
noncomputable def CE (outer : List Env) (P : Program) (w : World) (H : Hp) (s : Shared) (Q : VK) (u : Value) (s' : Shared) : Prop :=
  ∃ v H', s'.os = s.os ∧ AllBare s'.gens ∧ Un (frs outer) [] H H' s.heap s'.heap ∧ HOk P w H' s'.heap ∧ RelV v u ∧ Q v H'
noncomputable def CR (CX : CXT) (outer : List Env) (P : Program) (w : World) (H : Hp) (s : Shared) (Q : VK) (E : XK) (r : Result) (s' : Shared) : Prop :=
  match r with
  | .ok (.ret u) => CE outer P w H s Q u s'
  | .ok _ => False
  | .error e => CX outer H s E e s'
structure FnOk (P : Program) (w : World) (K : PySem.W.Frag) (mg : Str → Option Value) (base : Heap) (CX : CXT) (k : Nat) (f : Addr) (fd : FuncData) (ps : List Str) (sp : Sp) : Prop where
  len : ∀ vs H Q E, sp vs H Q E → vs.length = ps.length
  run : ∀ (A : Around) (outer : List Env) (s : Shared) (H : Hp) (args : Args) (us : List Value) (vs : List V) (Q : VK) (E : XK), Room k A → Env0 P w K mg base A outer s H → BindsTo s fd args (ps.zip us) → Vals vs us → sp vs H Q E →
    codeAny (model P w) A (.call (.ref f) args) (CR CX outer P w H s Q E) s

section
variable {X : Cx} {pins : List (Addr × Obj)} {σ : St} {H : Hp} {s s' : Shared}
theorem Inv.env0 (I : Inv X pins σ H s) : Env0 X.prog X.w X.K X.mg X.base X.A X.stack s H :=
  ⟨I.ok.frames, I.ok.mod, I.bs, Nat.le_trans I.ok.bsz I.sz, I.stack, I.stkFree, I.hok, I.bare⟩
theorem Inv.after {Q : VK} {u : Value} (I : Inv X pins σ H s) (h : CE X.stack X.prog X.w H s Q u s') : EP X pins σ Q u s' := by
  obtain ⟨v, H', os, bare, un, hok, r, q⟩ := h
  obtain ⟨hh, g, d, t, os'⟩ := s'
  obtain rfl : os' = s.os := os
  exact ⟨v, H', I.call (h' := hh) (g' := g) (d' := d) (t' := t) (ch := []) un hok bare (fun b z => absurd z (by simp)), r, q⟩
end

noncomputable def tCall (sp : Sp) (dvs : List V) (E : XK) (t : TA) : TE := fun σ H Q => t σ H fun vs H1 => sp (vs ++ dvs) H1 Q E

noncomputable def Binds (K : PySem.W.Frag) (fd : FuncData) (ps : List Str) (ds : List Value) : Prop :=
  ∀ (s : Shared) (us : List Value), K.In s.heap → (us ++ ds).length = ps.length → BindsTo s fd ⟨us, []⟩ (ps.zip (us ++ ds))
theorem Binds.all {K : PySem.W.Frag} {fd : FuncData} {ps : List Str} (h : ∀ us : List Value, us.length = ps.length → bindArgs fd ⟨us, []⟩ = pure (ps.zip us)) : Binds K fd ps [] := fun s us _ hl => by
  rw [List.append_nil] at hl ⊢
  exact .of_eq (h us hl)

noncomputable def Passes (CX : CXT) (X : Cx) (E : XK) : Prop := ∀ (pins : List (Addr × Obj)) (σ : St) (H : Hp) (s : Shared) (e : Value) (s' : Shared), Inv X pins σ H s → CX X.stack H s E e s' → X.xe e s'

section
variable {X : Cx} {CX : CXT} {k : Nat} {f C : Addr} {fd : FuncData} {ps : List Str} {sp : Sp} {dvs : List V} {ds : List Value} {E : XK} {x m : Str} {p pos apos : Pos} {e o : Expr} {es : List Expr} {ta : TE} {t : TA}

theorem run_fn {pins : List (Addr × Obj)} {σ : St} {H : Hp} {s : Shared} {Q : VK} {us : List Value} {vs : List V} (F : FnOk X.prog X.w X.K X.mg X.base CX k f fd ps sp) (hr : Room k X.A) (hb : Binds X.K fd ps ds) (hd : Vals dvs ds) (hx : Passes CX X E)
    (I : Inv X pins σ H s) (r : Vals vs us) (h : sp (vs ++ dvs) H Q E) : wpAny (model X.prog X.w) X.A (call (.ref f) us) (EP X pins σ Q) X.xe s := by
  have r2 : Vals (vs ++ dvs) (us ++ ds) := r.append hd
  have hl : (us ++ ds).length = ps.length := by rw [← r2.length]; exact F.len _ _ _ _ h
  refine wpAny_call (codeAny_mono (F.run X.A X.stack s H ⟨us, []⟩ (us ++ ds) (vs ++ dvs) Q E hr I.env0 (hb s us I.kIn hl) r2 h) fun r s' hq => ?_)
  cases r with
  | error e => exact hx pins σ H s e s' I hq
  | ok fl =>
    cases fl with
    | ret u => exact I.after hq
    | next => exact False.elim hq
    | brk => exact False.elim hq
    | cont => exact False.elim hq

theorem pe_call (F : FnOk X.prog X.w X.K X.mg X.base CX k f fd ps sp) (hr : Room k X.A) (hg : Gl X x) (hm : X.mg x = some (.ref f)) (hk : PySem.W.keepIn X.K (.ref f) = true) (hb : Binds X.K fd ps ds) (hd : Vals dvs ds) (hx : Passes CX X E)
    (ha : PA X (e :: es) t) (hdb : (x == ("__debug__" : Str)) = false := by decide) (he : starEach (e :: es) X.env = (false, eval e X.env) :: starEach es X.env := by rfl) (hpl : (backTo pos (starEach es X.env)).any (·.1) = false := by rfl) :
    PE X (.Call (.Name x p) (e :: es) [] pos) (tCall sp dvs E t) := by
  intro pins s σ H Q I h
  refine wpAny_Call_Name_kw (ld_glob I hg hm ?_ hdb)
  refine PySem.W.callWith_K (h₀ := X.base) I.ok.mod.kin hk (thn (ha pos pins s σ H _ I h) fun us s1 ⟨vs, H1, I1, r, q⟩ => ⟨I1.kIn, ?_⟩) he hpl
  exact run_fn F hr hb hd hx I1 r q

structure Mk (K : PySem.W.Frag) (C f : Addr) : Prop where
  makes : PySem.W.makesIn K C = true
  init : PySem.W.findIn K (.ref C) "__init__" = some (some (.ref f))
  fn : PySem.W.isFn K (.ref f) = true
  kp : PySem.W.keepIn K (.ref C) = true

end

section
variable {X : Cx} {CX : CXT} {k : Nat} {f C : Addr} {fd : FuncData} {ps ks : List Str} {sp : Sp} {E : XK} {x m : Str} {p pos apos kpos : Pos} {e o : Expr} {es : List Expr} {kws : List Keyword} {te ta : TE} {t tk : TA} {nm : Option Str}

structure KBinds (K : PySem.W.Frag) (fd : FuncData) (ps ks : List Str) (g : List Value → List Value → List Value) (gV : List V → List V → List V) : Prop where
  to : ∀ (s : Shared) (us ws : List Value), K.In s.heap → (g us ws).length = ps.length → BindsTo s fd ⟨us, ks.zip ws⟩ (ps.zip (g us ws))
  rel : ∀ {vs : List V} {us : List Value} {zs : List V} {ws : List Value}, Vals vs us → Vals zs ws → Vals (gV vs zs) (g us ws)
variable {g : List Value → List Value → List Value} {gV : List V → List V → List V}
end

structure FnScope (N P : List Str) (sc : Scope) : Prop where
  kind : sc.kind = .function
  co : sc.isCoroutine = false
  gen : sc.isGenerator = false
  nd : N.Nodup
  pre : N.take P.length = P
  par : ∀ x ∈ P, sc.names.lookup x = some .local ∨ sc.names.lookup x = some .cell
  nofree : ∀ y ∈ sc.names, y.2 ≠ .free

theorem bindL_out {kindOf : Str → Option NameKind} {x : Str} : ∀ {binds : List (Str × Value)} {m : Str → Option Value}, (∀ v, (x, v) ∉ binds) → bindL kindOf binds m x = m x
  | [], _, _ => rfl
  | (n, v) :: r, m, h => by
    unfold bindL
    rw [bindL_out fun w hw => h w (List.mem_cons_of_mem _ hw)]
    split
    · have : x ≠ n := by rintro rfl; exact h v List.mem_cons_self
      simp [this]
    · rfl
theorem bindC_out {kindOf : Str → Option NameKind} {x : Str} : ∀ {binds : List (Str × Value)} {m : Str → Option Value}, (∀ v, (x, v) ∉ binds) → bindC kindOf binds m x = m x
  | [], _, _ => rfl
  | (n, v) :: r, m, h => by
    unfold bindC
    rw [bindC_out fun w hw => h w (List.mem_cons_of_mem _ hw)]
    split
    · rfl
    · have : x ≠ n := by rintro rfl; exact h v List.mem_cons_self
      simp [this]
theorem bindL_get {kindOf : Str → Option NameKind} {x : Str} {v : Value} : ∀ {P : List Str} {vs : List Value} {i : Nat} {m : Str → Option Value}, P.Nodup → P[i]? = some x → vs[i]? = some v → kindOf x = some .local →
    bindL kindOf (P.zip vs) m x = some v
  | [], _, _, _, _, h, _, _ => by simp at h
  | _ :: _, [], _, _, _, _, h, _ => by simp at h
  | p :: P, w :: vs, 0, m, nd, h1, h2, hk => by
    simp at h1 h2; subst h1; subst h2
    show bindL kindOf ((p, w) :: P.zip vs) m p = _
    unfold bindL
    rw [bindL_out fun v hv => (List.nodup_cons.mp nd).1 (List.of_mem_zip hv).1, if_pos hk]
    simp
  | p :: P, w :: vs, i + 1, m, nd, h1, h2, hk => by
    show bindL kindOf ((p, w) :: P.zip vs) m x = _
    unfold bindL
    exact bindL_get (i := i) (List.nodup_cons.mp nd).2 (by simpa using h1) (by simpa using h2) hk
theorem bindC_get {kindOf : Str → Option NameKind} {x : Str} {v : Value} : ∀ {P : List Str} {vs : List Value} {i : Nat} {m : Str → Option Value}, P.Nodup → P[i]? = some x → vs[i]? = some v → kindOf x ≠ some .local →
    bindC kindOf (P.zip vs) m x = some v
  | [], _, _, _, _, h, _, _ => by simp at h
  | _ :: _, [], _, _, _, _, h, _ => by simp at h
  | p :: P, w :: vs, 0, m, nd, h1, h2, hk => by
    simp at h1 h2; subst h1; subst h2
    show bindC kindOf ((p, w) :: P.zip vs) m p = _
    unfold bindC
    rw [bindC_out fun v hv => (List.nodup_cons.mp nd).1 (List.of_mem_zip hv).1, if_neg hk]
    simp
  | p :: P, w :: vs, i + 1, m, nd, h1, h2, hk => by
    show bindC kindOf ((p, w) :: P.zip vs) m x = _
    unfold bindC
    exact bindC_get (i := i) (List.nodup_cons.mp nd).2 (by simpa using h1) (by simpa using h2) hk

noncomputable def start (N : List Str) (vs : List V) : St := vs.map some ++ List.replicate (N.length - vs.length) none

noncomputable def cxOf (CX : CXT) (P : Program) (w : World) (K : PySem.W.Frag) (mg : Str → Option Value) (base : Heap) (N : List Str) (qual : Str) (scope : Scope) (f : Addr) (cd : Value) (A : Around) (outer : List Env) (s : Shared) (H : Hp) (E : XK) : Cx where
  prog := P
  w := w
  K := K
  mg := mg
  base := base
  A := A.deeper (envOfC qual scope s.heap.objs.size f cd)
  N := N
  s₀ := s
  H₀ := H
  env := envOfC qual scope s.heap.objs.size f cd
  outer := outer
  stack := envOfC qual scope s.heap.objs.size f cd :: outer
  ex := []
  calm := true
  fn := fun _ => true
  pn := []
  xe := fun e s' => wpAny (model P w) (A.deeper (envOfC qual scope s.heap.objs.size f cd)) (leaving (envOfC qual scope s.heap.objs.size f cd) e) (fun _ s'' => CX outer H s E e s'') (fun e' s'' => CX outer H s E e' s'') s'

theorem cell_has {sc : Scope} {n : Nat} {x : Str} (h : sc.names.lookup x = some .cell) : ∃ c, (cellsFrom n sc.names []).lookup x = some c := by
  have q := PySem.W.cellsFrom_some sc.names n [] (.inl h)
  exact Option.isSome_iff_exists.mp q

theorem inv_start {CX : CXT} {P : Program} {w : World} {K : PySem.W.Frag} {mg : Str → Option Value} {base : Heap} {N ps : List Str} {qual : Str} {scope : Scope} {f : Addr} {cd : Value} {A : Around} {outer : List Env} {s s1 : Shared} {H : Hp} {E : XK} {us : List Value} {vs : List V}
    (S : FnScope N ps scope) (hd : A.handled = none) (e0 : Env0 P w K mg base A outer s H) (hl : vs.length = ps.length) (r : Vals vs us)
    (x : InCallC s s.heap.objs.size (bindL (envOfC qual scope s.heap.objs.size f cd).kindOf (ps.zip us) fun _ => none) (cellsFrom (s.heap.objs.size + 1) scope.names []) (bindC (envOfC qual scope s.heap.objs.size f cd).kindOf (ps.zip us) fun _ => none) s1) :
    Inv (cxOf CX P w K mg base N qual scope f cd A outer s H E) [] (start N vs) H s1 := by
  have hpl : ps.length ≤ N.length := by have := congrArg List.length S.pre; rw [List.length_take] at this; omega
  obtain ⟨h1, tk, rfl, hk⟩ := x.done
  have noA : ∀ b : Addr, b ∉ (cxOf CX P w K mg base N qual scope f cd A outer s H E).ex := fun b z => absurd (show b ∈ ([] : List Addr) from z) (by simp)
  refine ⟨⟨e0.mod, S.kind, rfl, rfl, Nat.le_refl _, fun y z c h1 h2 => ?_, fun y hy => ?_, fun y c _ h => ?_, fun _ => hd, Around.frames_deeper e0.frames, .inr ⟨rfl, rfl⟩, fun b z => absurd z (noA b), e0.bs, e0.bsz, fun b _ _ => noA b, fun b z => absurd z (noA b), e0.funs, e0.frf⟩,
    rfl, e0.bare, Un.kept hk, ⟨_, x.toInCall.ns, fun i y v h1 h2 h3 => ?_⟩, fun y c h => ⟨_, x.cell y c h⟩, e0.hok.fresh (Nat.le_refl _), fun y c h => ?_, fun p hp => absurd (show p ∈ ([] : List (Addr × Obj)) from hp) (by simp), e0.hok.kept hk, ?_⟩
  · exact name_of_addr x.apart (PySem.mem_of_lookup h1) (PySem.mem_of_lookup h2)
  · have hy : scope.names.lookup y = some .cell ∨ scope.names.lookup y = some .free := hy
    rcases hy with hy | hy
    · exact cell_has hy
    · exact absurd rfl (S.nofree _ (PySem.mem_of_lookup hy))
  · exact Nat.le_of_lt (x.above y c (PySem.mem_of_lookup h))
  · have hi : i < vs.length := by
      unfold start at h2
      by_cases hi : i < vs.length
      · exact hi
      · rw [List.getElem?_append_right (by simpa using hi)] at h2
        rw [List.getElem?_replicate] at h2
        split at h2 <;> cases h2
    have ha : vs[i]? = some v := by
      unfold start at h2
      rw [List.getElem?_append_left (by simpa using hi), List.getElem?_map] at h2
      cases e : vs[i]? with
      | none => rw [e] at h2; cases h2
      | some a => rw [e] at h2; cases h2; rfl
    obtain ⟨u, hu, rv⟩ := r.get ha
    have hp : ps[i]? = some y := by
      rw [← S.pre, List.getElem?_take_of_lt (by omega)]; exact h1
    have ndP : ps.Nodup := by rw [← S.pre]; exact S.nd.sublist (List.take_sublist _ _)
    refine ⟨u, rv, ?_⟩
    rcases S.par y (List.mem_of_getElem? hp) with k | k
    · exact .inl ⟨k, bindL_get ndP hp hu k⟩
    · obtain ⟨c, e⟩ := cell_has (n := s.heap.objs.size + 1) k
      refine .inr ⟨.inl k, c, e, ?_⟩
      have q := x.cell y c e
      rw [bindC_get ndP hp hu (by show scope.names.lookup y ≠ _; rw [k]; decide)] at q
      exact q
  · exact e0.hok.fresh (Nat.le_of_lt (x.above y c (PySem.mem_of_lookup h)))
  · unfold start
    show _ = N.length
    rw [List.length_append, List.length_map, List.length_replicate]
    omega

theorem fn_of {CX : CXT} {P : Program} {w : World} {K : PySem.W.Frag} {mg : Str → Option Value} {base : Heap} {k : Nat} {f : Addr} {name qual : Str} {params : Arguments} {body : List Stmt} {scope : Scope} {dV kV doc pm cdv ct oc : Value} {an od : Option Addr}
    {osl : Array (Option Value)} {N ps : List Str} {sp : Sp} (lk : K.lookup f = some ⟨oc, od, .func (PySem.W.fnOf name qual params body scope dV kV doc pm an cdv ct), osl⟩) (hcd : PySem.W.codeIn K cdv qual = true) (S : FnScope N ps scope)
    (len : ∀ vs H Q E, sp vs H Q E → vs.length = ps.length)
    (hbody : ∀ (A : Around) (outer : List Env) (s : Shared) (H : Hp) (vs : List V) (Q : VK) (E : XK), Room k (A.deeper (envOfC qual scope s.heap.objs.size f cdv)) → sp vs H Q E →
      ∃ t, PSs (cxOf CX P w K mg base N qual scope f cdv A outer s H E) body t ∧ t { nx := fun _ H' => Q .non H', rt := Q } (start N vs) H) :
    FnOk P w K mg base CX (k + 1) f (PySem.W.fnOf name qual params body scope dV kV doc pm an cdv ct) ps sp := by
  refine ⟨len, fun A outer s H args us vs Q E hr e0 hb r hsp => ?_⟩
  have hl := len _ _ _ _ hsp
  have KX : K.In s.heap := e0.mod.kin.keeps fun b o e => (e0.bs b o e).1
  have lim : s.heap.NoLimit := e0.mod.nolimit.keeps fun b o e => (e0.bs b o e).1
  have hkind : ∀ y ∈ ps.zip us, scope.names.lookup y.1 = some .local ∨ (scope.names.lookup y.1 = some .cell ∧ ((cellsFrom (s.heap.objs.size + 1) scope.names []).lookup y.1).isSome = true) := fun ⟨n, v⟩ hy => by
    rcases S.par n (List.of_mem_zip hy).1 with q | q
    · exact .inl q
    · exact .inr ⟨q, PySem.W.cellsFrom_some _ _ _ (.inl q)⟩
  refine codeAny_call_function hr.depth (KX _ _ lk) rfl S.co S.gen rfl (PySem.W.codeRec_of KX hcd) (hb _ _ _ _ ?_)
  refine wpAny_newFunctionEnv_cells S.kind hkind fun env he s1 x => ?_
  subst he
  refine ⟨lim.keeps x.toInCall.keep, codeAny_func ?_⟩
  obtain ⟨t, ht, hq⟩ := hbody A outer s H vs Q E (hr.deeper _) hsp
  have I : Inv (cxOf CX P w K mg base N qual scope f cdv A outer s H E) [] (start N vs) H s1 := inv_start S hr.hd e0 hl r x
  refine wpAny_mono (ht [] s1 (start N vs) H _ I hq) (fun fl s' hs => ?_) fun e s' hs => hs
  have fin : ∀ {σ' : St} {H' : Hp} {v : V} {u : Value}, Inv (cxOf CX P w K mg base N qual scope f cdv A outer s H E) [] σ' H' s' → RelV v u → Q v H' → CE outer P w H s Q u s' :=
    fun {σ' H' v u} J rv q => ⟨v, H', J.os, J.bare, J.base, J.hok, rv, q⟩
  cases fl with
  | ret u =>
    obtain ⟨v, σ', H', J, rv, q⟩ := hs
    exact fin J rv q
  | next =>
    obtain ⟨σ', H', J, q⟩ := hs
    exact fin (v := V.non) (u := Value.none) J rfl q
  | brk =>
    obtain ⟨_, _, _, q⟩ := hs
    exact False.elim q
  | cont =>
    obtain ⟨_, _, _, q⟩ := hs
    exact False.elim q
end L2

namespace L2
open PySem PySem.Spec PyProof.Rows
section
variable {X : Cx} {x : Str} {p pos : Pos} {e : Expr} {es : List Expr} {t : TA} {id T : String} {r : List V → Hp → VK → Prop}

noncomputable def tCB (r : List V → Hp → VK → Prop) (t : TA) : TE := fun σ H Q => t σ H fun vs H1 => r vs H1 Q
theorem pe_callB (hc : CallR X (.builtin id) r) (hg : Gl X x) (hm : X.mg x = none) (hv : bootBuiltins x = some (.builtin id)) (ha : PA X (e :: es) t) (hn : x ≠ "__name__" := by decide) (hdb : (x == ("__debug__" : Str)) = false := by decide)
    (he : starEach (e :: es) X.env = (false, eval e X.env) :: starEach es X.env := by rfl) (hpl : (backTo pos (starEach es X.env)).any (·.1) = false := by rfl) : PE X (.Call (.Name x p) (e :: es) [] pos) (tCB r t) := by
  intro pins s σ H Q I h
  refine wpAny_Call_Name_kw (ld_blt I hg hm hv ?_ hn hdb)
  exact PyProof.Rows.callWith_builtin1 (thn (ha pos pins s σ H _ I h) fun us s1 ⟨vs, H1, I1, r1, q1⟩ => hc pins s1 σ H1 vs us Q I1 r1 q1) he hpl
theorem pe_callTy (hc : CallR X (.type T) r) (hg : Gl X x) (hm : X.mg x = none) (hv : bootBuiltins x = some (.type T)) (ha : PA X (e :: es) t) (hn : x ≠ "__name__" := by decide) (hdb : (x == ("__debug__" : Str)) = false := by decide)
    (he : starEach (e :: es) X.env = (false, eval e X.env) :: starEach es X.env := by rfl) (hpl : (backTo pos (starEach es X.env)).any (·.1) = false := by rfl) : PE X (.Call (.Name x p) (e :: es) [] pos) (tCB r t) := by
  intro pins s σ H Q I h
  refine wpAny_Call_Name_kw (ld_blt I hg hm hv ?_ hn hdb)
  exact PyProof.Rows.callWith_type1 (thn (ha pos pins s σ H _ I h) fun us s1 ⟨vs, H1, I1, r1, q1⟩ => hc pins s1 σ H1 vs us Q I1 r1 q1) he hpl
end
end L2
namespace L2
open PySem PySem.Spec PyProof.Rows

section
variable {κ : Type} [DecidableEq κ]
noncomputable def valV (kvs : List (κ × V)) (k : κ) : Option V := (kvs.find? fun kv => decide (kv.1 = k)).map (·.2)
noncomputable def putK (kvs : List (κ × V)) (k : κ) (v : V) : List (κ × V) :=
  if (kvs.any fun kv => decide (kv.1 = k)) = true then kvs.map (fun kv => if kv.1 = k then (kv.1, v) else kv) else kvs ++ [(k, v)]

theorem valV_pos {p : κ × V} {r : List (κ × V)} {k : κ} (e : p.1 = k) : valV (p :: r) k = some p.2 := by simp [valV, List.find?_cons, e]
theorem valV_neg {p : κ × V} {r : List (κ × V)} {k : κ} (e : ¬ p.1 = k) : valV (p :: r) k = valV r k := by simp [valV, List.find?_cons, e]
theorem valV_any (k : κ) : ∀ kvs : List (κ × V), (kvs.any fun kv => decide (kv.1 = k)) = (valV kvs k).isSome
  | [] => rfl
  | p :: r => by
    rw [List.any_cons]
    by_cases e : p.1 = k
    · simp only [valV_pos e, decide_eq_true e, Bool.true_or, Option.isSome_some]
    · rw [valV_neg e, decide_eq_false e, Bool.false_or]; exact valV_any k r
theorem length_putK (kvs : List (κ × V)) (k : κ) (v : V) : (putK kvs k v).length ≤ kvs.length + 1 := by
  unfold putK
  split
  · rw [List.length_map]; omega
  · rw [List.length_append, List.length_cons, List.length_nil]; omega

theorem RelO.isSome_eq {o : Option V} {u : Option Value} (r : RelO o u) : o.isSome = u.isSome := by
  cases o with
  | none => cases u with
    | none => rfl
    | some _ => exact (show False from r).elim
  | some _ => cases u with
    | none => exact (show False from r).elim
    | some _ => rfl

theorem KV.val {kvs : List (κ × V)} {vs : List (κ × Value)} (r : KV kvs vs) (k : κ) : RelO (valV kvs k) (valueAt vs k) := by
  unfold KV at r
  induction r with
  | nil => exact True.intro
  | @cons p q ps qs h t ih =>
    obtain ⟨h1, h2⟩ := h
    by_cases e : p.1 = k
    · have e' : q.1 = k := h1.symm.trans e
      have b : valueAt (q :: qs) k = some q.2 := by simp [valueAt, List.find?_cons, e']
      rw [valV_pos e, b]; exact h2
    · have e' : ¬ q.1 = k := fun z => e (h1.trans z)
      have b : valueAt (q :: qs) k = valueAt qs k := by simp [valueAt, List.find?_cons, e']
      rw [valV_neg e, b]; exact ih
theorem KV.any {kvs : List (κ × V)} {vs : List (κ × Value)} (r : KV kvs vs) (k : κ) : (kvs.any fun kv => decide (kv.1 = k)) = vs.any fun kv => decide (kv.1 = k) := by
  unfold KV at r
  induction r with
  | nil => rfl
  | cons h t ih => rw [List.any_cons, List.any_cons, ih, h.1]
theorem KV.repl {kvs : List (κ × V)} {vs : List (κ × Value)} (r : KV kvs vs) (k : κ) {y : V} {u : Value} (ry : RelV y u) :
    KV (kvs.map fun kv => if kv.1 = k then (kv.1, y) else kv) (vs.map fun kv => if kv.1 = k then (kv.1, u) else kv) := by
  unfold KV at r ⊢
  induction r with
  | nil => exact .nil
  | @cons p q ps qs h t ih =>
    rw [List.map_cons, List.map_cons]
    refine .cons ?_ ih
    obtain ⟨h1, h2⟩ := h
    by_cases e : p.1 = k
    · rw [if_pos e, if_pos (h1.symm.trans e)]; exact ⟨h1, ry⟩
    · rw [if_neg e, if_neg (fun z => e (h1.trans z))]; exact ⟨h1, h2⟩
theorem KV.put {kvs : List (κ × V)} {vs : List (κ × Value)} (r : KV kvs vs) (k : κ) {y : V} {u : Value} (ry : RelV y u) : KV (putK kvs k y) (stored vs k u) := by
  unfold putK stored
  rw [r.any k]
  by_cases e : (vs.any fun kv => decide (kv.1 = k)) = true
  · rw [if_pos e, if_pos e]; exact r.repl k ry
  · rw [if_neg e, if_neg e]; exact Paired.snoc r ⟨rfl, ry⟩
theorem KV.length {kvs : List (κ × V)} {vs : List (κ × Value)} (r : KV kvs vs) : kvs.length = vs.length := Paired.length r
end

theorem kV_is {P : Program} {w : World} {k : Key} {u : Value} (r : RelV (kV k) u) : (mixKind P w).is k u = true := by
  cases k with
  | inl i => obtain ⟨t, e⟩ := (show ∃ t, u = Value.int i t from r); subst e; exact mixKind_int P w i t
  | inr x => obtain ⟨t, e⟩ := (show ∃ t, u = Value.str x t from r); subst e; exact mixKind_str P w x t
theorem items_are {P : Program} {w : World} : ∀ {ks : List Key} {us : List Value}, Vals (ks.map kV) us → ItemsAre (mixKind P w) ks us
  | [], _, r => by rw [List.map_nil] at r; cases r; exact .nil
  | k :: ks, _, r => by
    rw [List.map_cons] at r
    cases r with
    | cons h t => exact .cons (kV_is h) (items_are t)

noncomputable abbrev KT (H : Hp) : List (List Key × V) → List (List Key × Addr × Value) → Prop := Paired fun p q => p.1 = q.1 ∧ H q.2.1 = some (.tup (p.1.map kV)) ∧ RelV p.2 q.2.2
theorem KT.val {H : Hp} {kvs : List (List Key × V)} {xs : List (List Key × Addr × Value)} (r : KT H kvs xs) (k : List Key) : RelO (valV kvs k) ((atKey xs k).map (·.2)) := by
  induction r with
  | nil => exact True.intro
  | @cons p q ps qs h t ih =>
    obtain ⟨h1, _, h2⟩ := h
    by_cases e : p.1 = k
    · have e' : q.1 = k := h1.symm.trans e
      have b : atKey (q :: qs) k = some q.2 := by simp [atKey, List.find?_cons, e']
      rw [valV_pos e, b]; exact h2
    · have e' : ¬ q.1 = k := fun z => e (h1.trans z)
      have b : atKey (q :: qs) k = atKey qs k := by simp [atKey, List.find?_cons, e']
      rw [valV_neg e, b]; exact ih
theorem KT.repl {H : Hp} {kvs : List (List Key × V)} {xs : List (List Key × Addr × Value)} (r : KT H kvs xs) (k : List Key) {y : V} {u : Value} (ry : RelV y u) :
    KT H (kvs.map fun kv => if kv.1 = k then (kv.1, y) else kv) (xs.map (putAt k u)) := by
  induction r with
  | nil => exact .nil
  | @cons p q ps qs h t ih =>
    rw [List.map_cons, List.map_cons]
    refine .cons ?_ ih
    obtain ⟨h1, h2, h3⟩ := h
    unfold putAt
    by_cases e : p.1 = k
    · rw [if_pos e, if_pos (h1.symm.trans e)]; exact ⟨h1, h2, ry⟩
    · rw [if_neg e, if_neg (fun z => e (h1.trans z))]; exact ⟨h1, h2, h3⟩
theorem KT.put {H : Hp} {kvs : List (List Key × V)} {xs : List (List Key × Addr × Value)} (r : KT H kvs xs) (k : List Key) {b : Addr} {y : V} {u : Value} (hb : H b = some (.tup (k.map kV))) (ry : RelV y u) :
    KT H (putK kvs k y) (storedH xs k b u) := by
  have e : (kvs.any fun kv => decide (kv.1 = k)) = (atKey xs k).isSome := by
    rw [valV_any, (r.val k).isSome_eq, Option.isSome_map]
  unfold putK storedH
  rw [e]
  by_cases q : (atKey xs k).isSome = true
  · rw [if_pos q, if_pos q]; exact r.repl k ry
  · rw [if_neg q, if_neg q]; exact Paired.snoc r ⟨rfl, hb, ry⟩
theorem KT.keeps {H H' : Hp} {kvs : List (List Key × V)} {xs : List (List Key × Addr × Value)} (r : KT H kvs xs) (ht : ∀ b ys, H b = some (.tup ys) → H' b = some (.tup ys)) : KT H' kvs xs :=
  Paired.mapP r fun _ _ z => ⟨z.1, ht _ _ z.2.1, z.2.2⟩

section
variable {P : Program} {w : World} {H : Hp} {h : Heap} {a : Addr}
theorem rd_of {u : HO} (ok : HOk P w H h) (e : Rd H a u) : ObjOk P w H h a u := e.ok ok
theorem dk_rd {kvs : List (Key × V)} (ok : HOk P w H h) (e : Rd H a (.dK kvs)) : kvs.length ≤ sizeLine ∧ (a == sysModules) = false ∧ ∃ vs, KV kvs vs ∧ h.DictOf (mixKind P w) a vs :=
  show ObjOk P w H h a (.dK kvs) from rd_of ok e
theorem dk_of {kvs : List (Key × V)} (ok : HOk P w H h) (e : H a = some (.dK kvs)) : kvs.length ≤ sizeLine ∧ (a == sysModules) = false ∧ ∃ vs, KV kvs vs ∧ h.DictOf (mixKind P w) a vs := dk_rd ok (.inl e)
theorem key_of {ks : List Key} (ok : HOk P w H h) (e : H a = some (.tup (ks.map kV))) : (tupleKind (mixKind P w)).is h ks a := by
  obtain ⟨_, its, r, o, h1, h2, n, h3⟩ := (show ObjOk P w H h a (.tup (ks.map kV)) from ok a _ e)
  exact ⟨o, its.toArray, n, h1, h2, h3, by simpa using items_are r⟩
theorem dt_rd {kvs : List (List Key × V)} (ok : HOk P w H h) (e : Rd H a (.dT kvs)) : kvs.length ≤ sizeLine ∧ (a == sysModules) = false ∧
    ∃ xs, KT H kvs xs ∧ h.DictOfH (tupleKind (mixKind P w)) a xs := by
  obtain ⟨z, y, xs, r, o, es, ep, h1, h2, h3, h4, h5⟩ := (show ObjOk P w H h a (.dT kvs) from rd_of ok e)
  refine ⟨z, y, xs, r, o, es, ep, h1, h2, h3, h4, fun x hx => ?_, h5⟩
  have all : ∀ {l : List (List Key × V)} {m : List (List Key × Addr × Value)}, KT H l m → ∀ x ∈ m, (tupleKind (mixKind P w)).is h x.1 x.2.1 := by
    intro l m q
    induction q with
    | nil => intro x hx; exact nomatch hx
    | @cons p q ps qs hq t ih =>
      intro x hx
      rcases List.mem_cons.mp hx with e | hx
      · subst e
        exact key_of ok (by rw [← hq.1]; exact hq.2.1)
      · exact ih x hx
  exact all r x hx
theorem dt_of {kvs : List (List Key × V)} (ok : HOk P w H h) (e : H a = some (.dT kvs)) : kvs.length ≤ sizeLine ∧ (a == sysModules) = false ∧
    ∃ xs, KT H kvs xs ∧ h.DictOfH (tupleKind (mixKind P w)) a xs := dt_rd ok (.inl e)
end

noncomputable def DGet (H : Hp) (a : Addr) (y : V) (r : Option V) : Prop :=
  (∃ kvs k, Rd H a (.dK kvs) ∧ y = kV k ∧ r = valV kvs k) ∨ ∃ kvs k b, Rd H a (.dT kvs) ∧ y = .ref b ∧ H b = some (.tup (k.map kV)) ∧ r = valV kvs k
noncomputable def DPut (H : Hp) (a : Addr) (y v : V) (H' : Hp) : Prop :=
  (∃ kvs k, H a = some (.dK kvs) ∧ y = kV k ∧ kvs.length < sizeLine ∧ H' = upd H a (.dK (putK kvs k v))) ∨
  ∃ kvs k b, H a = some (.dT kvs) ∧ y = .ref b ∧ H b = some (.tup (k.map kV)) ∧ kvs.length < sizeLine ∧ H' = upd H a (.dT (putK kvs k v))
theorem DPut.t {H : Hp} {a b : Addr} {kvs : List (List Key × V)} {k : List Key} {v : V} (e : H a = some (.dT kvs)) (eb : H b = some (.tup (k.map kV))) (hl : kvs.length < sizeLine) :
    DPut H a (.ref b) v (upd H a (.dT (putK kvs k v))) := .inr ⟨kvs, k, b, e, rfl, eb, hl, rfl⟩

section
variable {X : Cx} {pins : List (Addr × Obj)} {σ : St} {H : Hp} {s : Shared} {a : Addr} {y v : V} {u r : Value} {o : Option V} {A : Around} {E : Value → Shared → Prop}

theorem Inv.big (I : Inv X pins σ H s) : sysModules < s.heap.objs.size := by
  have h : mainGlobals < s.heap.objs.size := (I.mod.glob.keeps I.bk).lt
  exact Nat.lt_trans (by decide) h

theorem d_notIn {Q : Value → Shared → Prop} (hu : A.units + 1 < cLine) (I : Inv X pins σ H s) (g : DGet H a y o) (ry : RelV y u) (h : ∀ s', Inv X pins σ H s' → Q (.bool (!o.isSome)) s') :
    wpAny (model X.prog X.w) A (compareOp .NotIn u (.ref a)) Q E s := by
  rcases g with ⟨kvs, k, e, ey, l⟩ | ⟨kvs, k, b, e, ey, eb, l⟩
  · subst ey
    obtain ⟨z, hd, vs, rel, dd⟩ := dk_rd I.hok e
    refine wpAny_notIn_of (kV_is ry) hd dd.mapOf ?_
    rw [← (rel.val k).isSome_eq, ← l]
    exact h _ (I.tok _)
  · subst ey
    cases (show u = Value.ref b from ry)
    obtain ⟨z, hd, xs, rel, dd⟩ := dt_rd I.hok e
    refine wpAny_notIn_heap (tupleKind_room_in1 hu) (key_of I.hok eb) hd dd ?_
    have q := (rel.val k).isSome_eq
    rw [Option.isSome_map] at q
    rw [← q, ← l]
    exact h _ (I.tok _)
theorem d_write {h' : Heap} {t' : Nat} {ob : HO} (I : Inv X pins σ H s) (mu : Mut (H a)) (hs : Heap.SameBut a s.heap h') (he : ∃ q, h'.get? a = some q) (new : ObjOk X.prog X.w (upd H a ob) h' a ob) :
    Inv X pins σ (upd H a ob) { s with heap := h', toks := t' } :=
  I.write (x := a) (e := a) mu (.inl rfl) (fun b q hb z => (hs.2 b hb).trans z) he new
theorem dk_new {P : Program} {w : World} {H' : Hp} {h' : Heap} {kvs : List (Key × V)} {vs : List (Key × Value)} (z : kvs.length ≤ sizeLine) (hd : (a == sysModules) = false) (rel : KV kvs vs) (dd : h'.DictOf (mixKind P w) a vs) :
    ObjOk P w H' h' a (.dK kvs) := ⟨z, hd, vs, rel, dd⟩
theorem d_setItem {H' : Hp} {Q : Unit → Shared → Prop} (hu : A.units + 1 < cLine) (I : Inv X pins σ H s) (g : DPut H a y v H') (ry : RelV y u) (rv : RelV v r) (h : ∀ s', Inv X pins σ H' s' → Q () s') :
    wpAny (model X.prog X.w) A (setItem (.ref a) u r) Q E s := by
  rcases g with ⟨kvs, k, e, ey, l, eH⟩ | ⟨kvs, k, b, e, ey, eb, l, eH⟩
  · subst ey eH
    obtain ⟨z, hd, vs, rel, dd⟩ := dk_of I.hok e
    have hz : vs.length ≤ sizeLine := by rw [← rel.length]; exact z
    have hl : (putK kvs k v).length ≤ sizeLine := by have := length_putK kvs k v; omega
    refine wpAny_setItem_pairs (hsz := hz) (kV_is ry) dd fun h' dd' hs => h _ ?_
    have he : ∃ q, h'.get? a = some q := let ⟨q, _, _, hq, _⟩ := dd'; ⟨q, hq⟩
    exact d_write I (by rw [e]; exact True.intro) hs he (dk_new hl hd (rel.put k rv) dd')
  · subst ey eH
    cases (show u = Value.ref b from ry)
    obtain ⟨z, hd, xs, rel, dd⟩ := dt_of I.hok e
    have hz : xs.length ≤ sizeLine := by rw [← Paired.length rel]; exact z
    have hl : (putK kvs k v).length ≤ sizeLine := by have := length_putK kvs k v; omega
    refine wpAny_setItem_heap (hsz := hz) (tupleKind_room_in1 hu) (key_of I.hok eb) dd fun h' dd' hs => h _ ?_
    obtain ⟨q, es, ep, hq, h2, h3, h4, _, h5⟩ := dd'
    refine d_write I (by rw [e]; exact True.intro) hs ⟨q, hq⟩ ⟨hl, hd, _, (rel.put k eb rv).keeps fun c ys ec => ?_, q, es, ep, hq, h2, h3, h4, h5⟩
    rw [upd_ne (ne_of ec e (fun z => nomatch z))]
    exact ec
end

section
variable {X : Cx} {pins : List (Addr × Obj)} {σ : St} {H : Hp} {s : Shared} {a : Addr} {kvs : List (Key × V)} {k : Key} {u : Value} {A : Around} {E : Value → Shared → Prop}
end

noncomputable def tDIn (ty td : TE) : TE := fun σ H Q => ty σ H fun y H1 => td σ H1 fun x H2 => ∃ a o, x = .ref a ∧ DGet H2 a y o ∧ Q (.bl o.isSome) H2
noncomputable def tDNotIn (ty td : TE) : TE := fun σ H Q => ty σ H fun y H1 => td σ H1 fun x H2 => ∃ a o, x = .ref a ∧ DGet H2 a y o ∧ Q (.bl (!o.isSome)) H2
noncomputable def sDPut (td ty tv : TE) : TS := fun D σ H => tv σ H fun v H1 => td σ H1 fun x H2 => ty σ H2 fun y H3 => ∃ a H4, x = .ref a ∧ DPut H3 a y v H4 ∧ D.nx σ H4

section
variable {X : Cx} {o i e value : Expr} {pos pos' tpos : Pos} {td ty tv : TE}
theorem pc_dnotin (hu : X.A.units + 1 < cLine) (hi : PE X i ty) (ho : PE X o td) : PC X .NotIn i o (tDNotIn ty td) := by
  intro pins s σ H Q I h
  refine thn (hi pins s σ H _ I h) fun iv s1 ⟨y, H1, I1, ry, q1⟩ => thn (ho pins s1 σ H1 _ I1 q1) ?_
  rintro u s2 ⟨x, H2, I2, rx, a, ov, ex, g, q2⟩
  subst ex
  obtain rfl : u = Value.ref a := rx
  exact d_notIn hu I2 g ry fun s3 I3 => ⟨.bl (!ov.isSome), H2, I3, rfl, q2⟩
theorem ps_dput (hu : X.A.units + 1 < cLine) (ho : PE X o td) (hi : PE X i ty) (hv : PE X value tv) (hs : swapsWith value (some (.Subscript o i pos')) pos.line X.env = pure false) :
    PS X (.Assign [.Subscript o i pos'] value pos) (sDPut td ty tv) := by
  intro pins s σ H D I h
  refine wpAny_Assign_Subscript (thn (hv pins s σ H _ I h) fun r s1 ⟨v, H1, I1, rv, q1⟩ => thn (ho pins s1 σ H1 _ I1 q1) fun u s2 ⟨x, H2, I2, rx, q2⟩ => thn (hi pins s2 σ H2 _ I2 q2) ?_) hs
  rintro iv s3 ⟨y, H3, I3, ry, a, H4, ex, g, q3⟩
  subst ex
  obtain rfl : u = Value.ref a := rx
  exact d_setItem hu I3 g ry rv fun s4 I4 => ⟨σ, H4, I4, q3⟩
end

theorem dt_empty {P : Program} {w : World} {H : Hp} (h : Heap) (hb : sysModules < h.objs.size) : ObjOk P w H (h.push { cls := .type "dict", data := .dict #[] }) h.objs.size (.dT []) :=
  ⟨Nat.zero_le _, beq_eq_false_iff_ne.mpr (Ne.symm (Nat.ne_of_lt hb)), [], .nil, _, #[], 0, Heap.get?_push_size _ rfl, ⟨rfl, rfl, rfl⟩, rfl, rfl, List.nodup_nil⟩
noncomputable def tDNewT : TE := fun _ H Q => ∀ p, H p = none → Q (.ref p) (upd H p (.dT []))
section
variable {X : Cx} {pos : Pos}
theorem pe_dnewT : PE X (.Dict [] [] pos) tDNewT := fun pins s σ H Q I h =>
  wpAny_Dict_empty ⟨.ref s.heap.objs.size, _, I.laid (a := s.heap.objs.size) (o := .dT []) (t' := s.toks) (fun _ _ q => Heap.get?_push_of_some _ q) (Nat.le_refl _) (dt_empty s.heap I.big), rfl, h _ (I.hok.fresh (Nat.le_refl _))⟩
end

structure M1 (X : Cx) (o : Expr) (m : Str) (apos : Pos) (e : Expr) (cpos : Pos) : Prop where
  base : attributeBase o m X.env (eval o X.env) = eval o X.env
  few : ((backTo cpos (starEach [e] X.env)).all (fun x => !x.1) && (backToKw cpos (keywordEach [] X.env)).all (fun x => x.1.isSome)
    && decide (([e] : List Expr).length + ([] : List Keyword).length + (if ([] : List Keyword).isEmpty then 0 else 1) < 30)) = true
  line : (apos.endLine == cpos.line) = true
  trees : backTo cpos (starEach [e] X.env) = [(false, eval e X.env)]
structure M2 (X : Cx) (o : Expr) (m : Str) (apos : Pos) (e f : Expr) (cpos : Pos) : Prop where
  base : attributeBase o m X.env (eval o X.env) = eval o X.env
  few : ((backTo cpos (starEach [e, f] X.env)).all (fun x => !x.1) && (backToKw cpos (keywordEach [] X.env)).all (fun x => x.1.isSome)
    && decide (([e, f] : List Expr).length + ([] : List Keyword).length + (if ([] : List Keyword).isEmpty then 0 else 1) < 30)) = true
  line : (apos.endLine == cpos.line) = true
  trees : backTo cpos (starEach [e, f] X.env) = [(false, eval e X.env), (false, eval f X.env)]

section
variable {X : Cx} {pins : List (Addr × Obj)} {σ : St} {H : Hp} {s : Shared} {a : Addr} {y d : V} {u r : Value} {o : Option V} {A : Around} {E : Value → Shared → Prop}
end

section
variable {X : Cx} {o e f : Expr} {apos cpos : Pos} {td ty tx : TE}
end

section
variable {X : Cx} {pins : List (Addr × Obj)} {σ : St} {H : Hp} {s : Shared} {a : Addr} {kvs : List (Key × V)} {A : Around} {E : Value → Shared → Prop}
end

section
variable {X : Cx} {pins : List (Addr × Obj)} {σ : St} {H : Hp} {s : Shared} {a : Addr} {y : V} {u : Value} {A : Around} {E : Value → Shared → Prop}
end
end L2
namespace HT
open PySem PyProof.Rows

noncomputable def lexLt : List Int → List Int → Bool
  | [], [] => false
  | [], _ :: _ => true
  | _ :: _, [] => false
  | x :: xs, y :: ys => if x = y then lexLt xs ys else decide (x < y)
theorem lexLt_cons (x y : Int) (xs ys : List Int) : lexLt (x :: xs) (y :: ys) = if x = y then lexLt xs ys else decide (x < y) := rfl
theorem lexLt_nil_nil : lexLt [] [] = false := rfl
theorem lexLt_nil_cons (y : Int) (ys : List Int) : lexLt [] (y :: ys) = true := rfl
theorem lexLt_cons_nil (x : Int) (xs : List Int) : lexLt (x :: xs) [] = false := rfl

theorem eqAt_int (A : Around) (s : Shared) (a : Int) (t : Tok) (c : Int) (u : Tok) : ∃ e, SeqAt.EqAt A s (.int a t) (.int c u) e ∧ (e = true ↔ a = c) :=
  ⟨(a == c), SeqAt.EqAt.int_int a t c u, by simp⟩
theorem rcLt_int (A : Around) (s : Shared) (a : Int) (t : Tok) (c : Int) (u : Tok) (prog : Program) (w : World) (E : Value → Shared → Prop) (Q : Value → Shared → Prop) (h : Q (.bool (decide (a < c))) s) :
    wpAny (model prog w) A (richCompare .Lt (.int a t) (.int c u)) Q E s :=
  (PyProof.Rows.lt_int h : wpAny (model prog w) A (compareOp .Lt (.int a t) (.int c u)) Q E s)

section
open PySem.SeqAt
open PySem.AutoSeq1 (wpAny_loadPart')
open PySem.MeetsSeq PySem.MeetsSeq2 PySem.MeetsSeq3

theorem tuple_lt_ints (l b : Addr) (items items2 : Array Value) (n n2 : Nat) (dd dd2 : Option Addr) (sl sl2 : Array (Option Value)) (ns ms : List Int) (hi : IntsAre items.toList ns) (hj : IntsAre items2.toList ms) :
    Meets (Builtin.«tuple.__lt__» ⟨[.ref l, .ref b], []⟩)
      (fun _ R s => s.heap.get? l = some { cls := .type "tuple", dict := dd, data := .seq items n, slots := sl } ∧ s.heap.get? b = some { cls := .type "tuple", dict := dd2, data := .seq items2 n2, slots := sl2 } ∧
        R (.ok (.ret (.bool (lexLt ns ms)))) s) :=
  .of_wp fun prog w A R s h => by
    obtain ⟨hp, g, d, tk, os⟩ := s; obtain ⟨hl, hb, h⟩ := h
    have f2 := AutoSeq1.sub_tuple_tuple
    have z1 : items.size = ns.length := by rw [← hi.length]; simp
    have z2 : items2.size = ms.length := by rw [← hj.length]; simp
    wp_walk using wpAny_loadPart' hl, wpAny_loadPart' hb, wpAny_forIn_list _ (fun rest b s' => b.1 = none ∧ s' = ⟨hp, g, d, tk, os⟩ ∧ ∃ (vs ws : List Value) (ns' ms' : List Int), rest = vs.zip ws ∧
      IntsAre vs ns' ∧ IntsAre ws ms' ∧ ns'.length + items2.size = ms'.length + items.size ∧ R (.ok (.ret (.bool (lexLt ns' ms')))) ⟨hp, g, d, tk, os⟩) _
    case turn =>
      rintro ⟨y, x⟩ rest b s' ⟨hb', rfl, vs, ws, ns', ms', hz, hvi, hwi, hlen, hR⟩
      cases hvi with
      | nil => rw [List.zip_nil_left] at hz; cases hz
      | cons a t hvi' =>
        cases hwi with
        | nil => rw [List.zip_nil_right] at hz; cases hz
        | cons c u hwi' =>
          rw [List.zip_cons_cons] at hz
          injection hz with hyx hrest
          injection hyx with hy hx
          subst hy hx
          rw [lexLt_cons] at hR
          simp only [List.length_cons] at hlen
          obtain ⟨e, he, hiff⟩ := eqAt_int A.in1 ⟨hp, g, d, tk, os⟩ a t c u
          refine wpAny_bind (he prog w _ _ ?_)
          cases e with
          | true =>
            rw [if_pos (hiff.mp rfl)] at hR
            wp_walk
            exact ⟨rfl, rfl, _, _, _, _, hrest, hvi', hwi', by omega, hR⟩
          | false =>
            rw [if_neg (fun q => absurd (hiff.mpr q) Bool.false_ne_true)] at hR
            have hri := rcLt_int A.in1 ⟨hp, g, d, tk, os⟩ a t c u prog w
            wp_walk using hri
            exact ⟨_, rfl, by simpa using hR⟩
    case fin =>
      rintro ⟨b1, b2⟩ s' ⟨hb', rfl, vs, ws, ns', ms', hz, hvi, hwi, hlen, hR⟩
      simp only at hb'
      subst hb'
      have hv : lexLt ns' ms' = decide (items.size < items2.size) := by
        cases hvi with
        | nil =>
          cases hwi with
          | nil =>
            simp only [List.length_nil] at hlen
            rw [lexLt_nil_nil]
            exact (decide_eq_false (by omega)).symm
          | cons c u hw =>
            simp only [List.length_nil, List.length_cons] at hlen
            rw [lexLt_nil_cons]
            exact (decide_eq_true (by omega)).symm
        | cons a t hv =>
          cases hwi with
          | nil =>
            simp only [List.length_nil, List.length_cons] at hlen
            rw [lexLt_cons_nil]
            exact (decide_eq_false (by omega)).symm
          | cons c u hw =>
            rw [List.zip_cons_cons] at hz
            cases hz
      rw [hv] at hR
      wp_walk
      exact ⟨_, rfl, by simpa [Builtin.Tuple.tupleCompareSizes] using hR⟩
    case h =>
      exact ⟨rfl, rfl, items.toList, items2.toList, ns, ms, rfl, hi, hj, by omega, h⟩
end

section
variable {prog : Program} {w : World} {A : Around} {E : Value → Shared → Prop} {s : Shared}

theorem lt_tupInts {l b : Addr} {items items2 : Array Value} {ns ms : List Int} {Q : Value → Shared → Prop} (hl : IsTup s.heap l items) (hb : IsTup s.heap b items2) (hi : IntsAre items.toList ns) (hj : IntsAre items2.toList ms)
    (hu : A.units < cLine) (h : Q (.bool (lexLt ns ms)) s) : wpAny (model prog w) A (compareOp .Lt (.ref l) (.ref b)) Q E s := by
  obtain ⟨⟨cls, dd, data, sl⟩, ho, hc, n, hd⟩ := id hl
  obtain ⟨⟨cls2, dd2, data2, sl2⟩, ho2, hc2, n2, hd2⟩ := id hb
  simp only at hc hd hc2 hd2
  subst hc hd hc2 hd2
  exact richCompare_meets_room (op := .Lt) ⟨_, ho, rfl⟩ ⟨_, ho2, rfl⟩ PySem.F.slot_tuple_lt PySem.F.entry_tuple_lt (PySem.F.args_tuple_lt_2 _ _) (tuple_lt_ints l b items items2 n n2 dd dd2 sl sl2 ns ms hi hj)
    ⟨ho, ho2, show Value.bool (lexLt ns ms) ≠ Value.notImplemented ∧ Q (.bool (lexLt ns ms)) s from ⟨(fun x => nomatch x), h⟩⟩ hu

noncomputable def sIx (n d : Nat) : Option Int → Nat
  | none => d
  | some v => if v < 0 then (v + (n : Int)).toNat else min v.toNat n
theorem sIx_none (n d : Nat) : sIx n d none = d := rfl
theorem sIx_nat (n d k : Nat) : sIx n d (some (k : Int)) = min k n := by
  show (if (k : Int) < 0 then ((k : Int) + (n : Int)).toNat else min (k : Int).toNat n) = min k n
  rw [if_neg (by omega), Int.toNat_natCast]
theorem sIx_le (n d : Nat) (hd : d ≤ n) (o : Option Int) : sIx n d o ≤ n := by
  cases o with
  | none => exact hd
  | some v =>
    show (if v < 0 then (v + (n : Int)).toNat else min v.toNat n) ≤ n
    by_cases hv : v < 0
    · rw [if_pos hv]; omega
    · rw [if_neg hv]; exact Nat.min_le_right _ _
theorem clip_eq (v : Int) (n d : Nat) : (if v < 0 then max (v + (n : Int)) 0 else min v (n : Int)) = ((sIx n d (some v) : Nat) : Int) := by
  show (if v < 0 then max (v + (n : Int)) 0 else min v (n : Int)) = (((if v < 0 then (v + (n : Int)).toNat else min v.toNat n) : Nat) : Int)
  by_cases hv : v < 0
  · simp only [if_pos hv]; omega
  · simp only [if_neg hv]; omega
theorem adjust_gen (lo hi : Option Int) (n : Nat) : Builtin.Slice.sliceAdjust lo hi 1 (n : Int) = (((sIx n 0 lo : Nat) : Int), ((sIx n n hi : Nat) : Int)) := by
  have h1 : ¬ ((1 : Int) < 0) := by omega
  unfold Builtin.Slice.sliceAdjust
  simp only [h1, if_false]
  refine Prod.ext ?_ ?_
  · cases lo with
    | none => rfl
    | some v => exact clip_eq v n 0
  · cases hi with
    | none => rfl
    | some v => exact clip_eq v n n
theorem places_gen (i j : Nat) : Builtin.Slice.slicePlaces (i : Int) (j : Int) 1 = j - i := by
  unfold Builtin.Slice.slicePlaces
  have h1 : (1 : Int) > 0 := by omega
  simp only [h1, if_true, Int.ediv_one]
  split <;> omega
theorem slicePart_ {v : Value} {o : Option Int} {Q : Option Int → Shared → Prop} (p : IsPart v o) (h : Q o s) : wpAny (model prog w) A (Builtin.Slice.slicePartIndex v) Q E s := by
  cases p with
  | none => exact slicePart_none h
  | int i t => exact slicePart_int h
theorem sliceApplied_gen {sl : Addr} {vl vu : Value} {lo hi : Option Int} {n : Nat} {Q : Int × Int × Nat → Shared → Prop} (hs : s.heap.IsSliceOf sl vl vu .none) (pl : IsPart vl lo) (pu : IsPart vu hi)
    (h : Q (((sIx n 0 lo : Nat) : Int), 1, sIx n n hi - sIx n 0 lo) s) : wpAny (model prog w) A (Builtin.Slice.sliceApplied (.ref sl) (pure (n : Int))) Q E s := by
  obtain ⟨os, hos, hcs, hds⟩ := id hs
  unfold Builtin.Slice.sliceApplied Builtin.Slice.sliceFields
  refine wpAny_bind (wpAny_bind (wpAny_field hos hds (x := vl) rfl (wpAny_bind (wpAny_field hos hds (x := vu) rfl (wpAny_bind (wpAny_field hos hds (x := .none) rfl (wpAny_pure ?_)))))))
  refine wpAny_bind (slicePart_none ?_)
  show wpAny _ _ (if ((1 : Int) == 0) = true then _ else _) _ _ s
  rw [if_neg (by decide)]
  refine wpAny_bind (slicePart_ pl (wpAny_bind (slicePart_ pu (wpAny_bind (wpAny_pure ?_)))))
  show wpAny _ _ (match Builtin.Slice.sliceAdjust lo hi 1 (n : Int) with | (lo, hi) => pure (lo, (1 : Int), Builtin.Slice.slicePlaces lo hi 1)) _ _ s
  rw [adjust_gen lo hi n]
  show wpAny _ _ (pure (((sIx n 0 lo : Nat) : Int), (1 : Int), Builtin.Slice.slicePlaces ((sIx n 0 lo : Nat) : Int) ((sIx n n hi : Nat) : Int) 1)) _ _ s
  rw [places_gen]
  exact wpAny_pure h
theorem pick_gen (xs : Array Value) (i k : Nat) : ((List.range k).filterMap fun (m : Nat) => xs[((i : Int) + (m : Int) * 1).toNat]?).toArray = ((xs.toList.drop i).take k).toArray := by
  have e : (fun (m : Nat) => xs[((i : Int) + (m : Int) * 1).toNat]?) = fun m => xs[i + m]? := by
    funext m
    have : ((i : Int) + (m : Int) * 1).toNat = i + m := by omega
    rw [this]
  rw [e]
  have := pick_run xs i k
  rw [List.filterMap_map] at this
  have e2 : ((fun x => xs[x]?) ∘ fun x => i + x) = fun m => xs[i + m]? := rfl
  rw [e2] at this
  rw [this]

theorem getItem_tuple_cut {t sl : Addr} {items : Array Value} {vl vu : Value} {lo hi : Option Int} {Q : Value → Shared → Prop} (ht : IsTup s.heap t items) (hs : s.heap.IsSliceOf sl vl vu .none) (pl : IsPart vl lo) (pu : IsPart vu hi)
    (hw : ¬ (sIx items.size 0 lo = 0 ∧ sIx items.size items.size hi = items.size))
    (h : Q (.ref s.heap.objs.size) { s with heap := s.heap.push { cls := .type "tuple", data := .seq ((items.toList.drop (sIx items.size 0 lo)).take (sIx items.size items.size hi - sIx items.size 0 lo)).toArray } })
    (hsz : items.size ≤ sizeLine) : wpAny (model prog w) A (getItem (.ref t) (.ref sl)) Q E s := by
  have htake : sizeOk (.seq ((items.toList.drop (sIx items.size 0 lo)).take (sIx items.size items.size hi - sIx items.size 0 lo)).toArray) := by
    show ((items.toList.drop (sIx items.size 0 lo)).take (sIx items.size items.size hi - sIx items.size 0 lo)).toArray.size ≤ sizeLine
    rw [List.size_toArray, List.length_take, List.length_drop, Array.length_toList]
    omega (config := {})
  have hj : sIx items.size items.size hi ≤ items.size := sIx_le _ _ (Nat.le_refl _) hi
  obtain ⟨os, hos, hcs, hds⟩ := id hs
  have hTs : s.TypeIs (.ref sl) "slice" := ⟨os, hos, hcs⟩
  unfold getItem
  try with_reducible refine wpAny_holding ?_
  first | refine wpAny_bind (wpAny_pure ?_) | skip
  refine wpAny_bind (wpAny_sequenceKey ht.typeIs (by decide) ?_)
  refine wpAny_bind (wpAny_callSpecial?_slot (name := Str.ofString "__getitem__") ht.typeIs PyProof.Rows.slot_tuple_getitem
    (wpAny_call_entry PyProof.Rows.slot_tuple_getitem ht.typeIs entry_tuple_getitem ?_ (args_tuple_getitem _ _)))
  show wpAny _ _ (Builtin.Tuple.tupleItemsOf (.ref t) >>= _) _ _ s
  refine wpAny_bind (tupleItemsOf_ ht ?_)
  refine wpAny_bind (wpAny_typeOf hTs ?_)
  rw [if_pos (by decide)]
  refine wpAny_bind (sliceApplied_gen hs pl pu ?_)
  have hno : ¬ ((((sIx items.size 0 lo : Nat) : Int) == 0 && (1 : Int) == 1 && (sIx items.size items.size hi - sIx items.size 0 lo) == items.size) = true) := by
    intro q
    rw [Bool.and_eq_true, Bool.and_eq_true] at q
    have q1 : ((sIx items.size 0 lo : Nat) : Int) = 0 := eq_of_beq q.1.1
    have q2 : sIx items.size items.size hi - sIx items.size 0 lo = items.size := eq_of_beq q.2
    exact hw ⟨by omega (config := {}), by omega (config := {})⟩
  show wpAny _ _ (if (((sIx items.size 0 lo : Nat) : Int) == 0 && (1 : Int) == 1 && (sIx items.size items.size hi - sIx items.size 0 lo) == items.size) = true then _ else _) _ _ s
  rw [if_neg hno, pick_gen]
  first
    | exact wpAny_bind (m := Builtin.Tuple.tupleExact _) (wpAny_newObj_type (wpAny_pure ⟨_, rfl, wpAny_pure h⟩) htake)
    | exact wpAny_bind (m := Builtin.Tuple.tupleExact _) (wpAny_newObj_type (wpAny_bind (wpAny_pure (wpAny_pure ⟨_, rfl, wpAny_pure h⟩))) htake)
    | exact wpAny_bind (wpAny_bind (m := Builtin.Tuple.tupleExact _) (wpAny_newObj_type (wpAny_pure (wpAny_pure ⟨_, rfl, wpAny_pure h⟩)) htake))
    | exact wpAny_bind (wpAny_bind (m := Builtin.Tuple.tupleExact _) (wpAny_newObj_type (wpAny_pure ⟨_, rfl, wpAny_pure h⟩) htake))
end
end HT

namespace L2
open PySem PySem.Spec PyProof.Rows

noncomputable abbrev TO := St → Hp → (Option Int → Hp → Prop) → Prop
noncomputable def PO (X : Cx) (e : Option Expr) (t : TO) : Prop :=
  ∀ (pins : List (Addr × Obj)) (s : Shared) (σ : St) (H : Hp) (Q : Option Int → Hp → Prop), Inv X pins σ H s → t σ H Q →
    wpAny (model X.prog X.w) X.A (evalPart e X.env) (fun u s' => ∃ o H', Inv X pins σ H' s' ∧ IsPart u o ∧ Q o H') X.xe s
noncomputable def tNoPart : TO := fun _ H Q => Q none H
noncomputable def tPart (t : TE) : TO := fun σ H Q => t σ H fun x H1 => ∃ i, x = .int i ∧ Q (some i) H1

theorem intsAre_of {ns : List Int} : ∀ {us : List Value}, Vals (ns.map V.int) us → IntsAre us ns := by
  induction ns with
  | nil => intro us r; rw [List.map_nil] at r; cases r; exact .nil
  | cons n ns ih =>
    intro us r
    rw [List.map_cons] at r
    cases r with
    | cons r1 r2 =>
      obtain ⟨t, e⟩ := r1
      subst e
      exact .cons n t (ih r2)

section
variable {X : Cx} {e : Expr} {te : TE} {lo hi : Option Expr} {tl th : TO} {pos p2 : Pos}

theorem po_none : PO X none tNoPart := by
  intro pins s σ H Q I h
  rw [evalPart_none]
  exact wpAny_pure ⟨none, H, I, .none, h⟩
theorem po_some (h : PE X e te) : PO X (some e) (tPart te) := by
  intro pins s σ H Q I hw
  rw [evalPart_some]
  refine thn (h pins s σ H _ I hw) ?_
  rintro u s1 ⟨x, H1, I1, r1, q1⟩
  obtain ⟨i, rfl, q⟩ := q1
  obtain ⟨t, rfl⟩ := r1
  exact ⟨some i, H1, I1, .int i t, q⟩

noncomputable def SlR (X : Cx) (r : V → Option Int → Option Int → Hp → VK → Prop) : Prop :=
  ∀ (pins : List (Addr × Obj)) (s : Shared) (σ : St) (H : Hp) (x : V) (v vl vu : Value) (lo hi : Option Int) (sl : Addr) (Q : VK), Inv X pins σ H s → RelV x v → s.heap.IsSliceOf sl vl vu .none → IsPart vl lo → IsPart vu hi → r x lo hi H Q →
    ∃ T id, typeLookup (.type T) "__getitem__" = pure (some (.builtin id)) ∧ s.TypeIs v T ∧ wpAny (model X.prog X.w) X.A (getItem v (.ref sl)) (EP X pins σ Q) X.xe s
theorem SlR.or {r r' : V → Option Int → Option Int → Hp → VK → Prop} (h : SlR X r) (h' : SlR X r') : SlR X (fun x lo hi H Q => r x lo hi H Q ∨ r' x lo hi H Q) := by
  intro pins s σ H x v vl vu lo hi sl Q I rx hs pl pu q
  rcases q with q | q
  · exact h pins s σ H x v vl vu lo hi sl Q I rx hs pl pu q
  · exact h' pins s σ H x v vl vu lo hi sl Q I rx hs pl pu q
noncomputable def tSl (r : V → Option Int → Option Int → Hp → VK → Prop) (te : TE) (tl th : TO) : TE := fun σ H Q => te σ H fun x H1 => tl σ H1 fun l H2 => th σ H2 fun u H3 => r x l u H3 Q
theorem pe_slice {r : V → Option Int → Option Int → Hp → VK → Prop} (hr : SlR X r) (he : PE X e te) (hl : PO X lo tl) (hu : PO X hi th) : PE X (.Subscript e (.Slice lo hi none p2) pos) (tSl r te tl th) := by
  intro pins s σ H Q I h
  refine Subscript_ (thn (he pins s σ H _ I h) ?_)
  rintro v s1 ⟨x, H1, I1, r1, q1⟩
  refine wpAny_Slice (thn (hl pins s1 σ H1 _ I1 q1) fun vl s2 ⟨l, H2, I2, pl, q2⟩ => thn (hu pins s2 σ H2 _ I2 q2) ?_)
  rintro vu s3 ⟨u, H3, I3, pu, q3⟩
  rw [evalPart_none]
  refine wpAny_pure ?_
  have I4 : Inv X pins σ H3 { s3 with heap := s3.heap.push { cls := .type "slice", data := .fields #[vl, vu, .none] } } := I3.kept (t' := s3.toks) fun b ob q => Heap.get?_push_of_some _ q
  obtain ⟨T, id, hT, ht, hg⟩ := hr pins { s3 with heap := s3.heap.push { cls := .type "slice", data := .fields #[vl, vu, .none] } } σ H3 x v vl vu l u s3.heap.objs.size Q I4 r1 (Heap.IsSliceOf.new ..) pl pu q3
  show wpAny (model X.prog X.w) X.A (subscriptTail e (.Slice lo hi none p2) v (.ref s3.heap.objs.size)) (EP X pins σ Q) X.xe { s3 with heap := s3.heap.push { cls := .type "slice", data := .fields #[vl, vu, .none] } }
  exact tail_any (ops := [.ref s3.heap.objs.size, v]) ht hT hg (by with_unfolding_all rfl)

noncomputable def cutV (xs : List V) (lo hi : Option Int) : List V := (xs.drop (HT.sIx xs.length 0 lo)).take (HT.sIx xs.length xs.length hi - HT.sIx xs.length 0 lo)
theorem cutV_length (xs : List V) (lo hi : Option Int) : (cutV xs lo hi).length ≤ xs.length := by
  unfold cutV
  rw [List.length_take, List.length_drop]
  omega
noncomputable def rSlT (K : PySem.W.Frag) : V → Option Int → Option Int → Hp → VK → Prop := fun x lo hi H Q => ∃ a xs, x = .ref a ∧ SqT K H a xs ∧
  ¬ (HT.sIx xs.length 0 lo = 0 ∧ HT.sIx xs.length xs.length hi = xs.length) ∧ ∀ p, H p = none → Q (.ref p) (upd H p (.tup (cutV xs lo hi)))
theorem sl_tup : SlR X (rSlT X.K) := by
  intro pins s σ H x v vl vu lo hi sl Q I rx hs pl pu h
  obtain ⟨a, xs, rfl, hx, hw, q⟩ := h
  cases rx
  obtain ⟨its, r, ht, hz⟩ := I.tuple hx
  have hlen : its.toArray.size = xs.length := by rw [List.size_toArray]; exact r.length.symm
  refine ⟨"tuple", _, PyProof.Rows.slot_tuple_getitem.lookup, ht.typeIs, ?_⟩
  refine HT.getItem_tuple_cut ht hs pl pu (by rw [hlen]; exact hw) ?_ (by rw [hlen]; exact hz)
  rw [hlen]
  refine ⟨.ref s.heap.objs.size, _, I.laid (t' := s.toks) (o := .tup (cutV xs lo hi)) (fun b ob q => Heap.get?_push_of_some _ q) (Nat.le_refl _) ?_, rfl, q _ (I.hok.fresh (Nat.le_refl _))⟩
  exact ⟨Nat.le_trans (cutV_length xs lo hi) hz, _, (r.drop (HT.sIx xs.length 0 lo)).take (HT.sIx xs.length xs.length hi - HT.sIx xs.length 0 lo), IsTup.new _ _⟩

noncomputable def rLtT (K : PySem.W.Frag) : R2 := fun x y H Q => ∃ a b ns ms, x = .ref a ∧ y = .ref b ∧ SqT K H a (ns.map V.int) ∧ SqT K H b (ms.map V.int) ∧ Q (.bl (HT.lexLt ns ms)) H
theorem op_ltT (hu : X.A.units < cLine) : OpR X (compareOp .Lt) (rLtT X.K) := by
  intro pins s σ H x y v u Q I rx ry h
  obtain ⟨a, b, ns, ms, rfl, rfl, ha, hb, q⟩ := h
  cases rx
  cases ry
  obtain ⟨its, r1, p1, _⟩ := I.tuple ha
  obtain ⟨its2, r2, p2, _⟩ := I.tuple hb
  have i1 : IntsAre its.toArray.toList ns := intsAre_of r1
  have i2 : IntsAre its2.toArray.toList ms := intsAre_of r2
  exact HT.lt_tupInts p1 p2 i1 i2 hu ⟨.bl (HT.lexLt ns ms), H, I, rfl, q⟩
end
end L2

namespace L2
open PySem PySem.Spec PyProof.Rows

noncomputable def ixN (n : Nat) (i : Int) : Option Nat := if 0 ≤ i then (if i < n then some i.toNat else none) else if -(n : Int) ≤ i then some (i + n).toNat else none
noncomputable def atI {α : Type} (xs : List α) (i : Int) : Option α := (ixN xs.length i).bind fun j => xs[j]?
theorem ixN_seq {n : Nat} {i : Int} {j : Nat} (h : ixN n i = some j) : seqIndex? i n = some j ∧ j < n ∧ -(n : Int) ≤ i ∧ i < n := by
  unfold ixN at h
  by_cases h0 : 0 ≤ i
  · rw [if_pos h0] at h
    by_cases h1 : i < n
    · rw [if_pos h1] at h
      have e : i.toNat = j := Option.some.inj h
      exact ⟨by rw [seqIndex_of h0 h1, e], by omega, by omega, h1⟩
    · rw [if_neg h1] at h; cases h
  · rw [if_neg h0] at h
    by_cases h1 : -(n : Int) ≤ i
    · rw [if_pos h1] at h
      have e : (i + n).toNat = j := Option.some.inj h
      exact ⟨by rw [seqIndex_neg (by omega) h1, e], by omega, h1, by omega⟩
    · rw [if_neg h1] at h; cases h
theorem atI_get {α : Type} {xs : List α} {i : Int} {v : α} (h : atI xs i = some v) : ∃ j, seqIndex? i xs.length = some j ∧ xs[j]? = some v ∧ j < xs.length ∧ -(xs.length : Int) ≤ i ∧ i < xs.length := by
  unfold atI at h
  cases e : ixN xs.length i with
  | none => rw [e] at h; cases h
  | some j =>
    rw [e] at h
    obtain ⟨h1, h2, h3, h4⟩ := ixN_seq e
    exact ⟨j, h1, h, h2, h3, h4⟩
theorem atI_nat {α : Type} {xs : List α} {j : Nat} {v : α} (h : xs[j]? = some v) : atI xs (j : Int) = some v := by
  have hj : j < xs.length := (List.getElem?_eq_some_iff.mp h).1
  have e : ixN xs.length (j : Int) = some j := by
    unfold ixN
    rw [if_pos (by omega), if_pos (by omega)]; simp
  unfold atI; rw [e]; exact h

noncomputable def PlainIx (b : Expr) : Prop := ∀ o i, subscripted b false o i = operate [o, i] (getItem o i)
noncomputable def IxR (X : Cx) (r : R2) : Prop :=
  ∀ (value slice : Expr) (pins : List (Addr × Obj)) (s : Shared) (σ : St) (H : Hp) (x y : V) (v u : Value) (Q : VK), Inv X pins σ H s → RelV x v → RelV y u → r x y H Q →
    subscripted slice false v u = operate [v, u] (getItem v u) → wpAny (model X.prog X.w) X.A (subscriptTail value slice v u) (EP X pins σ Q) X.xe s
noncomputable def MtR (X : Cx) (id : String) (r : V → List V → Hp → VK → Prop) : Prop :=
  ∀ (pins : List (Addr × Obj)) (s : Shared) (σ : St) (H : Hp) (x : V) (xs : List V) (v : Value) (us : List Value) (Q : VK), Inv X pins σ H s → RelV x v → Vals xs us → r x xs H Q →
    wpAny (model X.prog X.w) X.A (call (.builtin id) (v :: us)) (EP X pins σ Q) X.xe s
section
variable {X : Cx} {a b : Expr} {ta tb : TE} {pos : Pos}
theorem IxR.or {r r' : R2} (h : IxR X r) (h' : IxR X r') : IxR X (fun x y H Q => r x y H Q ∨ r' x y H Q) := by
  intro value slice pins s σ H x y v u Q I rx ry q hs
  rcases q with q | q
  · exact h value slice pins s σ H x y v u Q I rx ry q hs
  · exact h' value slice pins s σ H x y v u Q I rx ry q hs
theorem pe_ix {r : R2} (hr : IxR X r) (ha : PE X a ta) (hb : PE X b tb) (hs : PlainIx b) : PE X (.Subscript a b pos) (tOp r ta tb) := by
  intro pins s σ H Q I h
  exact Subscript_ (binT ha hb I h fun v u s2 x y H2 I2 rx ry q => hr a b pins s2 σ H2 x y v u Q I2 rx ry q (hs _ _))

noncomputable def rIxL (K : PySem.W.Frag) : R2 := fun x y H Q => ∃ p xs i v, x = .ref p ∧ y = .int i ∧ SqL K H p xs ∧ atI xs i = some v ∧ Q v H
noncomputable def rIxT (K : PySem.W.Frag) : R2 := fun x y H Q => ∃ p xs i v, x = .ref p ∧ y = .int i ∧ SqT K H p xs ∧ atI xs i = some v ∧ Q v H
noncomputable def rIxS : R2 := fun x y H Q => ∃ z i c, x = .str z ∧ y = .int i ∧ z.length ≤ sizeLine ∧ atI z.cps.toList i = some c ∧ Q (.str ⟨#[c]⟩) H
theorem ix_list : IxR X (rIxL X.K) := by
  intro value slice pins s σ H x y v u Q I rx ry h hs
  obtain ⟨p, xs, i, z, rfl, rfl, hq, he, q⟩ := h
  cases rx
  obtain ⟨t, rfl⟩ := ry
  obtain ⟨its, r, pl, hz⟩ := I.list hq
  obtain ⟨j, h1, h2, h3, h4, h5⟩ := atI_get he
  obtain ⟨w, ew, rw'⟩ := r.get h2
  have hl := r.length
  have hn := line63
  have fin : EP X pins σ Q w s := ⟨z, H, I, rw', q⟩
  by_cases h0 : 0 ≤ i
  · have hj : i.toNat = j := by
      rw [seqIndex_of h0 h5] at h1
      exact Option.some.inj h1
    exact item_listR pl.isList h0 (by omega) (by rw [hj]; simpa using ew) fin hs
  · have hj : (i + (its.toArray.size : Int)).toNat = j := by
      rw [seqIndex_neg (by omega) h4] at h1
      rw [List.size_toArray, ← hl]
      exact Option.some.inj h1
    exact subscriptTail_builtinR (x := w) pl.isList.typeIs slot_list_getitem.lookup
      (wpAny_getItem_list_neg (Q := fun r s' => r = w ∧ EP X pins σ Q r s') pl.isList (by omega) (by rw [List.size_toArray] <;> omega) (by omega) (by rw [hj]; simpa using ew) ⟨rfl, fin⟩) hs
theorem ix_tup : IxR X (rIxT X.K) := by
  intro value slice pins s σ H x y v u Q I rx ry h hs
  obtain ⟨p, xs, i, z, rfl, rfl, hq, he, q⟩ := h
  cases rx
  obtain ⟨t, rfl⟩ := ry
  obtain ⟨its, r, pl, hz⟩ := I.tuple hq
  obtain ⟨j, h1, h2, h3, h4, h5⟩ := atI_get he
  obtain ⟨w, ew, rw'⟩ := r.get h2
  have hl := r.length
  have hn := line63
  have fin : EP X pins σ Q w s := ⟨z, H, I, rw', q⟩
  exact subscriptTail_builtinR (x := w) pl.typeIs slot_tuple_getitem.lookup
    (getItem_tuple (j := j) (Q := fun r s' => r = w ∧ EP X pins σ Q r s') pl (by omega) (by omega) (by rw [List.size_toArray, ← hl]; exact h1) (by simpa using ew) ⟨rfl, fin⟩) hs
theorem ix_str : IxR X rIxS := by
  intro value slice pins s σ H x y v u Q I rx ry h hs
  obtain ⟨z, i, c, rfl, rfl, hz, he, q⟩ := h
  obtain ⟨t, rfl⟩ := rx
  obtain ⟨t', rfl⟩ := ry
  obtain ⟨j, h1, h2, h3, h4, h5⟩ := atI_get he
  have hl : z.cps.toList.length = z.length := by simp [Str.length]
  rw [hl] at h1 h4 h5
  have hn := line63
  exact tail_any (typeIs_str s z t) slot_str_getitem.lookup (getItem_str (c := c) (by
    have e1 : decide (i < -(2 ^ 63 : Int)) = false := decide_eq_false (by omega)
    have e2 : decide (i ≥ 2 ^ 63) = false := decide_eq_false (by omega)
    rw [e1, e2, Bool.or_false]) (by rw [h1]; simpa using h2) ⟨.str ⟨#[c]⟩, H, I.tok _, ⟨_, rfl⟩, q⟩) hs
noncomputable def rIx (K : PySem.W.Frag) : R2 := fun x y H Q => rIxL K x y H Q ∨ rIxT K x y H Q ∨ rIxS x y H Q
theorem ix_seq : IxR X (rIx X.K) := ix_list.or (ix_tup.or ix_str)

theorem slice_bounds (lo hi : Option Int) (n : Nat) : (sliceBounds lo hi none n).1 = ((HT.sIx n 0 lo : Nat) : Int) ∧ (sliceBounds lo hi none n).2.1 = ((HT.sIx n n hi : Nat) : Int) ∧ (sliceBounds lo hi none n).2.2 = 1 := by
  refine ⟨?_, ?_, rfl⟩
  · cases lo with
    | none => simp [sliceBounds, HT.sIx]
    | some i =>
      simp only [sliceBounds, HT.sIx, Option.getD_none, show (1 : Int) > 0 by decide, if_true]
      by_cases h : i < 0
      · simp only [h, if_true] <;> omega
      · simp only [h, if_false] <;> omega
  · cases hi with
    | none => simp [sliceBounds, HT.sIx]
    | some i =>
      simp only [sliceBounds, HT.sIx, Option.getD_none, show (1 : Int) > 0 by decide, if_true]
      by_cases h : i < 0
      · simp only [h, if_true] <;> omega
      · simp only [h, if_false] <;> omega
theorem slicePick_cut (its : List Value) (lo hi : Option Int) : slicePick its.toArray lo hi none = ((its.drop (HT.sIx its.length 0 lo)).take (HT.sIx its.length its.length hi - HT.sIx its.length 0 lo)).toArray := by
  obtain ⟨h1, h2, h3⟩ := slice_bounds lo hi its.toArray.size
  unfold slicePick
  rw [h1, h2, h3]
  simp only [sliceRange_one, pick_run, List.size_toArray] <;> rfl
noncomputable def rSlL (K : PySem.W.Frag) : V → Option Int → Option Int → Hp → VK → Prop := fun x lo hi H Q => ∃ a xs, x = .ref a ∧ SqL K H a xs ∧ ∀ p, H p = none → Q (.ref p) (upd H p (.lst (cutV xs lo hi)))
theorem sl_list : SlR X (rSlL X.K) := by
  intro pins s σ H x v vl vu lo hi sl Q I rx hs pl pu h
  obtain ⟨a, xs, rfl, hx, q⟩ := h
  cases rx
  obtain ⟨its, r, ht, hz⟩ := I.list hx
  have hlen := r.length
  refine ⟨"list", _, slot_list_getitem.lookup, ht.isList.typeIs, ?_⟩
  refine wpAny_getItem_list_slice ht.isList hs pl pu .none (by simp) ?_ (by rw [List.size_toArray] <;> omega)
  rw [slicePick_cut, ← hlen]
  refine ⟨.ref s.heap.objs.size, _, I.laid (t' := s.toks) (o := .lst (cutV xs lo hi)) (fun b ob q => Heap.get?_push_of_some _ q) (Nat.le_refl _) ?_, rfl, q _ (I.hok.fresh (Nat.le_refl _))⟩
  exact ⟨Nat.le_trans (cutV_length xs lo hi) hz, _, 0, (r.drop (HT.sIx xs.length 0 lo)).take (HT.sIx xs.length xs.length hi - HT.sIx xs.length 0 lo), Heap.get?_push_size _ rfl⟩

theorem call_len_seq : CallR X (.builtin "len") (fun xs H Q => ∃ p ys, xs = [.ref p] ∧ (SqL X.K H p ys ∨ SqT X.K H p ys) ∧ Q (.int ys.length) H) := by
  intro pins s σ H xs us Q I r h
  obtain ⟨p, ys, rfl, hq, q⟩ := h
  obtain ⟨u, rfl, rx⟩ := vals1 r
  cases rx
  have hn := line63
  rcases hq with hq | hq
  · obtain ⟨its, r', pl, hz⟩ := I.list hq
    have hlen := r'.length
    exact Calls.call_len_list pl.isList (by simp only [List.size_toArray] <;> omega) ⟨.int ys.length, H, I.tok _, ⟨s.toks + 1, by rw [List.size_toArray, hlen]⟩, q⟩
  · obtain ⟨its, r', pl, hz⟩ := I.tuple hq
    have hlen := r'.length
    exact len_tuple pl (by simp only [List.size_toArray] <;> omega) ⟨.int ys.length, H, I.tok _, ⟨s.toks + 1, by rw [List.size_toArray, hlen]⟩, q⟩
theorem call_len_str : CallR X (.builtin "len") (fun xs H Q => ∃ z, xs = [.str z] ∧ z.length ≤ sizeLine ∧ Q (.int z.length) H) := by
  intro pins s σ H xs us Q I r h
  obtain ⟨z, rfl, hz, q⟩ := h
  obtain ⟨u, rfl, t, rfl⟩ := vals1 r
  have hn := line63
  exact len_str (by omega) ⟨.int z.length, H, I.tok _, ⟨_, rfl⟩, q⟩
theorem CallR.or {f : Value} {r r' : List V → Hp → VK → Prop} (h : CallR X f r) (h' : CallR X f r') : CallR X f (fun xs H Q => r xs H Q ∨ r' xs H Q) := by
  intro pins s σ H xs us Q I rs q
  rcases q with q | q
  · exact h pins s σ H xs us Q I rs q
  · exact h' pins s σ H xs us Q I rs q
theorem call_list_of : CallR X (.type "list") (fun xs H Q => ∃ p ys, xs = [.ref p] ∧ (SqL X.K H p ys ∨ SqT X.K H p ys) ∧ ∀ l, H l = none → Q (.ref l) (upd H l (.lst ys))) := by
  intro pins s σ H xs us Q I r h
  obtain ⟨p, ys, rfl, hq, q⟩ := h
  obtain ⟨u, rfl, rx⟩ := vals1 r
  cases rx
  have fin : ∀ (its : List Value), Vals ys its → ys.length ≤ sizeLine → ∀ (h' : Heap) (c' : Nat), (∀ b o', s.heap.get? b = some o' → h'.get? b = some o') →
      h'.get? s.heap.objs.size = some { cls := .type "list", dict := none, data := .seq its.toArray c', slots := #[] } → EP X pins σ Q (.ref s.heap.objs.size) { s with heap := h' } := fun its r' hz h' c' kp e =>
    ⟨.ref s.heap.objs.size, _, I.laid (t' := s.toks) kp (Nat.le_refl _) (show ObjOk X.prog X.w _ h' _ (.lst ys) from ⟨hz, its, c', r', e⟩), rfl, q _ (I.hok.fresh (Nat.le_refl _))⟩
  rcases hq with hq | hq
  · obtain ⟨its, r', pl, hz⟩ := I.list hq
    have hlen := r'.length
    obtain ⟨o, ho, hc, n, hd⟩ := pl.isList
    exact call_list_seq p (.inl rfl) ho hc hd (fun h' c' kp e => fin its r' hz h' c' kp e) (by simp only [List.size_toArray] <;> omega)
  · obtain ⟨its, r', pl, hz⟩ := I.tuple hq
    have hlen := r'.length
    obtain ⟨o, ho, hc, n, hd⟩ := pl
    exact call_list_seq p (.inr rfl) ho hc hd (fun h' c' kp e => fin its r' hz h' c' kp e) (by simp only [List.size_toArray] <;> omega)

noncomputable def tyV (K : PySem.W.Frag) (T : String) (x : V) (H : Hp) : Prop := match x with
  | .str _ => T = "str"
  | .int _ => T = "int"
  | .ref p => (T = "list" ∧ ∃ xs, SqL K H p xs) ∨ (T = "tuple" ∧ ∃ o, K.lookup p = some o ∧ o.cls = .type "tuple" ∧ o.dict = none) ∨
      (T = "dict" ∧ ((∃ kvs, H p = some (.dK kvs)) ∨ ∃ kvs, H p = some (.dT kvs))) ∨ (T = "set" ∧ ∃ S n, H p = some (.set S n))
  | _ => False
theorem tyV_is {pins : List (Addr × Obj)} {σ : St} {H : Hp} {s : Shared} {T : String} {x : V} {v : Value} (I : Inv X pins σ H s) (r : RelV x v) (ty : tyV X.K T x H) :
    s.TypeIs v T ∧ ∀ a, v = .ref a → ∃ ob, s.heap.get? a = some ob ∧ ob.dict = none := by
  cases x with
  | str z =>
    obtain ⟨t, rfl⟩ := r
    cases (show T = "str" from ty)
    exact ⟨typeIs_str s z t, fun _ e => nomatch e⟩
  | int i =>
    obtain ⟨t, rfl⟩ := r
    cases (show T = "int" from ty)
    exact ⟨typeIs_int s i t, fun _ e => nomatch e⟩
  | ref p =>
    cases r
    rcases ty with ⟨rfl, xs, hq⟩ | ⟨rfl, o, hk, hc, hd⟩ | ⟨rfl, hk⟩ | ⟨rfl, S, n, hk⟩
    · obtain ⟨its, _, pl, _⟩ := I.list hq
      refine ⟨pl.isList.typeIs, fun a e => ?_⟩
      cases e
      obtain ⟨o, n, e, c, hd, _⟩ := pl
      exact ⟨o, e, hd⟩
    · refine ⟨⟨o, I.kIn p o hk, hc⟩, fun a e => ?_⟩
      cases e
      exact ⟨o, I.kIn _ o hk, hd⟩
    · have z : ∃ o, s.heap.get? p = some o ∧ o.ExactDict := by
        rcases hk with ⟨kvs, hk⟩ | ⟨kvs, hk⟩
        · obtain ⟨_, _, _, _, o, _, _, e, ex, _⟩ := I.hok p _ hk
          exact ⟨o, e, ex⟩
        · obtain ⟨_, _, _, _, o, _, _, e, ex, _⟩ := I.hok p _ hk
          exact ⟨o, e, ex⟩
      obtain ⟨o, e, ex⟩ := z
      refine ⟨⟨o, e, ex.1⟩, fun a e2 => ?_⟩
      cases e2
      exact ⟨o, e, ex.2.1⟩
    · obtain ⟨o, _, _, _, e, ex, _⟩ := I.hok p _ hk
      refine ⟨⟨o, e, ex.1⟩, fun a e2 => ?_⟩
      cases e2
      exact ⟨o, e, ex.2.1⟩
  | _ => exact False.elim ty
noncomputable def tBM (K : PySem.W.Frag) (T : String) (r : V → List V → Hp → VK → Prop) (to : TE) (t : TA) : TE := fun σ H Q => to σ H fun x H1 => tyV K T x H1 ∧ t σ H1 fun xs H2 => r x xs H2 Q
variable {o e : Expr} {es : List Expr} {to : TE} {t : TA} {name : Str} {apos cpos : Pos} {T id : String} {r : V → List V → Hp → VK → Prop}
theorem pe_bm (pa : PlainAttrs T) (slot : Slot T name id) (hty : typeOf (.builtin id) = pure (.type "method_descriptor")) (hm : MtR X id r) (ho : PE X o to) (ha : PA X (e :: es) t)
    (hbase : attributeBase o name X.env (eval o X.env) = eval o X.env := by rfl)
    (hfew : ((backTo cpos (starEach (e :: es) X.env)).all (fun x => !x.1) && (backToKw cpos (keywordEach [] X.env)).all (fun x => x.1.isSome)
      && decide ((e :: es).length + ([] : List Keyword).length + (if ([] : List Keyword).isEmpty then 0 else 1) < 30)) = true := by rfl)
    (hline : (apos.endLine == cpos.line) = true := by rfl) (hs : starEach (e :: es) X.env = (false, eval e X.env) :: starEach es X.env := by rfl) (hplain : (backTo cpos (starEach es X.env)).any (·.1) = false := by rfl) :
    PE X (.Call (.Attribute o name apos) (e :: es) [] cpos) (tBM X.K T r to t) := by
  intro pins s σ H Q I h
  refine wpAny_Call_method_late hbase hfew hline rfl (thn (ho pins s σ H _ I h) ?_)
  rintro v s1 ⟨x, H1, I1, r1, ty, q1⟩
  obtain ⟨h1, h2⟩ := tyV_is I1 r1 ty
  refine ⟨T, id, pa, slot, hty, h1, h2, ?_⟩
  have hA := ha cpos pins s1 σ H1 _ I1 q1
  rw [hs] at hA ⊢
  refine Calls.callWith_builtin (by show (false || (backTo cpos (starEach es X.env)).any (·.1)) = false; rw [hplain] <;> rfl) (Calls.evalArgs_plain ?_)
  exact thn hA fun us s2 ⟨vs, H2, I2, r2, q2⟩ => hm pins s2 σ H2 x vs v us Q I2 r1 r2 q2
/- xs.append(e), list.index on a module's tuple .. are MtR facts of 06m -/
end
end L2

namespace L2
open PySem PySem.Spec PyProof.Rows

noncomputable def MtM (X : Cx) (id : String) (r : V → List V → Hp → VK → Prop) : Prop :=
  ∀ (pins : List (Addr × Obj)) (s : Shared) (σ : St) (H : Hp) (x : V) (xs : List V) (v : Value) (us : List Value) (Q : VK), Inv X pins σ H s → RelV x v → Vals xs us → r x xs H Q →
    wpAny (model X.prog X.w) X.A (call (.builtin id) (v :: us)) (EP X pins σ Q) X.xe s

theorem Vals.one : ∀ {x : V} {us : List Value}, Vals [x] us → ∃ u, us = [u] ∧ RelV x u
  | _, _, .cons r .nil => ⟨_, rfl, r⟩

section
variable {X : Cx} {pins : List (Addr × Obj)} {σ : St} {H : Hp} {s : Shared} {l b : Addr} {xs ys zs : List V}

theorem Inv.lset {its its' : List Value} {n : Nat} {f : Array Value → Array Value} {t' : Nat} (I : Inv X pins σ H s) (hH : H l = some (.lst xs))
    (e : s.heap.get? l = some { cls := .type "list", data := .seq its.toArray n }) (hf : f its.toArray = its'.toArray) (hv : Vals ys its') (hz : ys.length ≤ sizeLine) :
    Inv X pins σ (upd H l (.lst ys)) { s with heap := s.heap.update l (Obj.mapSeq f), toks := t' } := by
  have q := PySem.IsL.update e f
  rw [hf] at q
  refine I.write (x := l) (e := l) (by rw [hH]; exact trivial) (.inl rfl) (fun b' u hb hu => (Heap.get?_update_other s.heap (Obj.mapSeq f) (Ne.symm hb)).trans hu) ⟨_, q⟩ ?_
  exact ⟨hz, its', _, hv, q⟩
theorem Inv.lnew {its : List Value} {t' : Nat} (I : Inv X pins σ H s) (hv : Vals ys its) (hz : ys.length ≤ sizeLine) :
    Inv X pins σ (upd H s.heap.objs.size (.lst ys)) { s with heap := s.heap.push { cls := .type "list", data := .seq its.toArray }, toks := t' } :=
  I.laid (fun _ _ q => Heap.get?_push_of_some _ q) (Nat.le_refl _) ⟨hz, its, 0, hv, Heap.get?_push_size _ rfl⟩
theorem Inv.fresh (I : Inv X pins σ H s) : H s.heap.objs.size = none := I.hok.fresh (Nat.le_refl _)
theorem Inv.lstM (I : Inv X pins σ H s) (hH : H l = some (.lst xs)) : xs.length ≤ sizeLine ∧ ∃ (its : List Value) (n : Nat), Vals xs its ∧ xs.length = its.length ∧ s.heap.get? l = some { cls := .type "list", data := .seq its.toArray n } := by
  obtain ⟨z, its, n, r, e⟩ := I.hok l _ hH
  exact ⟨z, its, n, r, r.length, e⟩

theorem notLongL {n : Nat} (h : n ≤ sizeLine) : Builtin.List.listTooLong n = false := by
  unfold Builtin.List.listTooLong
  exact decide_eq_false (by omega)
end

section
variable {X : Cx}

noncomputable def rAppend : V → List V → Hp → VK → Prop := fun x vs H Q => ∃ l xs y, x = .ref l ∧ vs = [y] ∧ H l = some (.lst xs) ∧ xs.length < sizeLine ∧ Q .non (upd H l (.lst (xs ++ [y])))
theorem mt_append : MtM X "list.append" rAppend := by
  intro pins s σ H x vs v us Q I rx rv h
  obtain ⟨l, xs, y, rfl, rfl, hH, hz, q⟩ := h
  cases rx
  obtain ⟨u, rfl, ru⟩ := rv.one
  obtain ⟨z, its, n, r, hl, e⟩ := I.lstM hH
  refine call_meets F.slot_list_append ⟨_, e, rfl⟩ F.entry_list_append (F.args_list_append_2 _ _) (PySem.list_append l its.toArray n u (by rw [List.size_toArray]; omega)) ⟨e, ?_⟩
  refine ⟨.non, _, I.lset (its' := its ++ [u]) hH e (by simp) (r.append (.cons ru .nil)) ?_, rfl, q⟩
  rw [List.length_append, List.length_singleton]
  omega

noncomputable def rExtend : V → List V → Hp → VK → Prop := fun x vs H Q => ∃ l b xs zs, x = .ref l ∧ vs = [.ref b] ∧ H l = some (.lst xs) ∧ H b = some (.lst zs) ∧ xs.length + zs.length ≤ sizeLine ∧ Q .non (upd H l (.lst (xs ++ zs)))
theorem mt_extend : MtM X "list.extend" rExtend := by
  intro pins s σ H x vs v us Q I rx rv h
  obtain ⟨l, b, xs, zs, rfl, rfl, hH, hB, hz, q⟩ := h
  cases rx
  obtain ⟨u, rfl, ru⟩ := rv.one
  cases ru
  obtain ⟨z, its, n, r, hl, e⟩ := I.lstM hH
  obtain ⟨z2, its2, n2, r2, hl2, e2⟩ := I.lstM hB
  have hsz : its.toArray.size + its2.toArray.size ≤ sizeLine := by rw [List.size_toArray, List.size_toArray]; omega
  have hlong : ¬ (!its.toArray.isEmpty && Builtin.List.listTooLong (its.toArray.size + its2.toArray.size)) = true := by
    rw [notLongL hsz, Bool.and_false]
    exact Bool.false_ne_true
  refine call_meets F.slot_list_extend ⟨_, e, rfl⟩ F.entry_list_extend (F.args_list_extend_2 _ _)
    (AutoSeq1.list_extend_list_list_0 l its.toArray n b its2.toArray n2 hlong (by rw [List.size_toArray]; omega) (by omega)) ⟨e, e2, ?_⟩
  refine ⟨.non, _, I.lset (its' := its ++ its2) hH e (by simp) (r.append r2) ?_, rfl, q⟩
  rw [List.length_append]
  omega

noncomputable def rCat : R2 := fun x y H Q => ∃ l b xs zs, x = .ref l ∧ y = .ref b ∧ H l = some (.lst xs) ∧ H b = some (.lst zs) ∧ xs.length + zs.length ≤ sizeLine ∧ ∀ p, H p = none → Q (.ref p) (upd H p (.lst (xs ++ zs)))
theorem op_cat : OpR X (binaryOp .Add) rCat := by
  intro pins s σ H x y v u Q I rx ry h
  obtain ⟨l, b, xs, zs, rfl, rfl, hH, hB, hz, q⟩ := h
  cases rx
  cases ry
  obtain ⟨z, its, n, r, hl, e⟩ := I.lstM hH
  obtain ⟨z2, its2, n2, r2, hl2, e2⟩ := I.lstM hB
  refine PySem.P.add_list e e2 ?_ (by rw [List.size_toArray, List.size_toArray]; omega)
  have ea : its.toArray ++ its2.toArray = (its ++ its2).toArray := by simp
  rw [ea]
  exact ⟨.ref _, _, I.lnew (t' := s.toks) (r.append r2) (by rw [List.length_append]; omega), rfl, q _ I.fresh⟩

end

section
variable {prog : Program} {w : World} {A : Around} {E : Value → Shared → Prop} {s : Shared}
end

section
variable {X : Cx}
end
end L2
namespace Att
open PySem PySem.W PySem.Calls PyProof.Rows

theorem ints_of_wellAll {P : Params} {h : Heap} : ∀ (ns : List Int) (vs : List Value), WellAll P h vs (ns.map WData.int) → IntsAre vs ns := by
  intro ns
  induction ns with
  | nil =>
    intro vs w
    rw [List.map_nil] at w
    cases w
    exact .nil
  | cons n ns ih =>
    intro vs w
    rw [List.map_cons] at w
    cases w with
    | cons a b =>
      cases a
      exact .cons _ _ (ih _ b)

theorem script_of {l : OpenLaw} {n : Nat} (hn : l.most = some n) {P : Params} {h : Heap} {args : List WData} {vals : List Value}
    (hpre : l.row.toRowW.claim.pre args = true) (hwl : WellAll P h vals args) :
    ∃ a vs ns, vals = [Value.ref a] ∧ args = [WData.list (ns.map WData.int)] ∧ h.get? a = some { cls := .type "list", data := .seq vs.toArray } ∧ IntsAre vs ns ∧ ns.length ≤ n := by
  have hsh : WShape.hasAll [] args [.list .int] = true := (pre_splitW hpre).1
  have hc : l.pre.holds [] { args := args } = true := (pre_splitW hpre).2
  obtain ⟨d, r, rfl, h1, h2⟩ := hasAllW_cons hsh
  obtain rfl := hasAllW_nil h2
  obtain ⟨xs, rfl, h3⟩ := hasW_list h1
  obtain ⟨ns, rfl⟩ := items_int h3
  have hlen : ns.length ≤ n := by
    unfold OpenLaw.pre at hc
    have h4 : (WTm.not (.lt (.lit (.int (n : Int))) (.len (.arg 0)))).holds [] { args := [.list (ns.map .int)] } = true := by
      have h4 := (holds_andW hc).1
      rw [hn] at h4
      exact h4
    have h5 := condW_of h4 (w_not (w_lt w_lit (w_len_list (w_arg rfl))))
    rw [List.length_map] at h5
    refine Nat.le_of_not_lt fun q => ?_
    have q' : (n : Int) < ((ns.length : Nat) : Int) := by omega
    first
      | (rw [decide_eq_true q'] at h5; exact absurd h5 (by decide))
      | (simp at h5; omega)
  cases hwl with
  | cons w1 w2 =>
    cases w2
    cases w1 with
    | list ho hall => exact ⟨_, _, ns, rfl, rfl, ho, ints_of_wellAll ns _ hall, hlen⟩

theorem post_true (l : OpenLaw) (args : List WData) : l.row.toRowW.claim.post args (.bool true) args = true :=
  postW_of (r := l.row.toRowW) (X := (true == true))
    (show WShape.has [] (.bool true) .bool = true by first | rfl | decide | simp [WShape.has, WShape.arms, WShape.armsAll])
    (show (WTm.eq .res (.lit (.bool true))).value [] { args := args, res := some (.bool true), after := args } = some (.bool (true == true)) from w_eq_bool (w_res rfl) w_lit) rfl

theorem attach_call {l : OpenLaw} {n : Nat} {q : Program} {loose : List Str} {XP : (Str → Option Value) → Heap → Prop} {YP : World → Heap → Prop} {d : DefRec}
    (hn : l.most = some n) (hdf : d.params.defaults = [])
    (call : ∀ (w : World) (s₀ s₁ : Shared) (mg mb : Str → Option Value) (fa : Addr) (o : Obj) (pm cd doc : Value) (a : Addr) (vs : List Value) (ns : List Int),
      Ground q loose [] XP w s₀ mg mb s₁.heap → YP w s₁.heap →
      s₁.heap.get? fa = some o → o.data = .func (docDef d.name d.params d.body d.scope pm cd doc) → s₁.heap.CodeRec cd d.name → mg d.name = some (.ref fa) →
      s₁.heap.get? a = some { cls := .type "list", data := .seq vs.toArray } → IntsAre vs ns → ns.length ≤ n → s₁.gens = #[] →
      codeAny (model l.prog w) callerA (.call (.ref fa) ⟨[.ref a], []⟩) (fun r s' => r = .ok (.ret (.bool true)) ∧ OldK s₁.heap s'.heap ∧ s'.os = s₁.os ∧ AllBare s'.gens) s₁) :
    WalkO q loose XP YP l.row.toRowW d [] (fun f vs => PySem.call f vs) := by
  intro w s₀ s₁ mg mb G Y fa o pm cd doc dV kV ho hd hcd hD hmg hg args vals as hpre hlay hrd hwl hlo
  obtain rfl : dV = .none := Dflts.none hD hdf
  obtain rfl : kV = .none := Dflts.noKw hD
  obtain ⟨a, vs, ns, rfl, rfl, hobj, hints, hlen⟩ := script_of hn hpre hwl
  refine enter_call (codeAny_mono (call w s₀ s₁ mg mb fa o pm cd doc a vs ns G Y ho (fd_plain hd) hcd hmg hobj hints hlen hg) fun r s' hq => ?_)
  obtain ⟨rfl, h2, h3, h4⟩ := hq
  exact ⟨.inl ⟨.bool true, .bool true, [], rfl, fun _ => rfl, .bool true, post_true l _, fun _ => ⟨List.Pairwise.nil, fun _ hm => (nomatch hm)⟩⟩, h2, h3, h4⟩

section
variable {prog : Program} {w : World} {A : Around} {E : Value → Shared → Prop} {s : Shared} {K : Frag}

end
end Att

namespace L2
open PySem PySem.Spec PyProof.Rows

theorem vals_ints : ∀ {vs : List Value} {ns : List Int}, IntsAre vs ns → Vals (ns.map V.int) vs
  | _, _, .nil => .nil
  | _, _, .cons n t h => .cons ⟨t, rfl⟩ (vals_ints h)

noncomputable def Only (H : Hp) : Prop := ∀ b, H b = none ∨ ∃ o xs, H b = some (.frz o (.lst xs))

theorem law_call {P : Program} {w : World} {K : PySem.W.Frag} {mg mb : Str → Option Value} {CX : CXT} {k : Nat} {fa a : Addr} {fd : FuncData} {x : Str} {sp : Sp} {s₁ : Shared} {vs : List Value} {ns : List Int}
    (KX : K.In s₁.heap) (hns : s₁.heap.Ns mainGlobals mg) (hb : s₁.heap.Ns builtinsNs mb) (hbb : ∀ x : Str, x ≠ "__name__" → mb x = bootBuiltins x) (hlim : s₁.heap.NoLimit) (hg : s₁.gens = #[])
    (ha : s₁.heap.get? a = some { cls := .type "list", data := .seq vs.toArray }) (hi : IntsAre vs ns) (hl : ns.length ≤ sizeLine) (hr : Room k callerA)
    (F : ∀ base : Heap, K.In base → base.Ns mainGlobals mg → FnOk P w K mg base CX k fa fd [x] sp) (hbind : ∀ (s : Shared) (u : Value), BindsTo s fd ⟨[u], []⟩ [(x, u)])
    (hsp : ∀ H : Hp, Only H → SqL K H a (ns.map V.int) → sp [.ref a] H (fun v _ => v = .bl true) fun _ _ _ => False)
    (hCX : ∀ H e s', CX [] H s₁ (fun _ _ _ => False) e s' → False) :
    codeAny (model P w) callerA (.call (.ref fa) ⟨[.ref a], []⟩) (fun r s' => r = .ok (.ret (.bool true)) ∧ OldK s₁.heap s'.heap ∧ s'.os = s₁.os ∧ AllBare s'.gens) s₁ := by
  have rv := vals_ints hi
  have lenV := hi.length
  -- from an abstract heap in which nothing but the script may be tracked
  have core : ∀ H : Hp, Only H → SqL K H a (ns.map V.int) → HOk P w H s₁.heap → (∀ b, H b ≠ none → b = a) → (H a ≠ none → K.lookup a = none) →
      codeAny (model P w) callerA (.call (.ref fa) ⟨[.ref a], []⟩) (fun r s' => r = .ok (.ret (.bool true)) ∧ OldK s₁.heap s'.heap ∧ s'.os = s₁.os ∧ AllBare s'.gens) s₁ := by
    intro H hO hS hok hA hK
    have base_of : ∀ {b : Addr} {o : Obj}, s₁.heap.get? b = some o → H b = none → (hidT s₁.heap H).get? b = some o := fun e n => hidT_get e n
    have noA : ∀ {b : Addr} {o : Obj} {es : Array DictEntry} {ep : Nat}, s₁.heap.get? b = some o → o.data = .dict es ep → H b = none := fun {b o es ep} e d => by
      cases q : H b with
      | none => rfl
      | some u =>
        have e' : b = a := hA b (by rw [q]; simp)
        subst e'
        rw [ha] at e; cases e
        have d' : Data.seq vs.toArray _ = Data.dict es ep := d
        cases d'
    have nsK : ∀ {b : Addr} {m : Str → Option Value}, s₁.heap.Ns b m → (hidT s₁.heap H).Ns b m := fun {b m} ⟨o, es, ep, e, d, r⟩ => ⟨o, es, ep, base_of e (noA e d), d, r⟩
    have hKb : K.In (hidT s₁.heap H) := fun b o e => base_of (KX b o e) (by
      cases q : H b with
      | none => rfl
      | some u =>
        have e' : b = a := hA b (by rw [q]; simp)
        subst e'
        rw [hK (by rw [q]; simp)] at e; cases e)
    have hM : Mod K mg (hidT s₁.heap H) := ⟨hKb, nsK hns, ⟨mb, nsK hb, hbb⟩, let ⟨mc, h1, h2⟩ := hlim; ⟨mc, nsK h1, h2⟩⟩
    have e0 : Env0 P w K mg (hidT s₁.heap H) callerA [] s₁ H := ⟨rfl, hM, fun b o e => of_hidT e, Nat.le_of_eq (hidT_size _ _), trivial, fun b hb => absurd (show b ∈ ([] : List Addr) from hb) (by simp), hok, .of_eq hg⟩
    refine codeAny_mono ((F _ hKb (nsK hns)).run callerA [] s₁ H ⟨[.ref a], []⟩ [.ref a] [.ref a] _ _ hr e0 (hbind s₁ (.ref a)) (.cons rfl .nil) (hsp H hO hS)) fun r s' h => ?_
    cases r with
    | error e => exact (hCX H e s' h).elim
    | ok fl =>
      cases fl with
      | next => exact False.elim h
      | brk => exact False.elim h
      | cont => exact False.elim h
      | ret u =>
        obtain ⟨v, H', os, bare, un, hok', r', q⟩ := h
        have q' : v = .bl true := q
        subst q'
        obtain rfl : u = Value.bool true := r'
        refine ⟨rfl, OldK.of_keep fun b o e => ?_, os, bare⟩
        cases q : H b with
        | none => exact un.keep b o e q (by intro z; exact absurd (show b ∈ ([] : List Addr) from z) (by simp)) (by simp)
        | some u =>
          rcases hO b with z | ⟨ob, xs, z⟩
          · rw [q] at z; cases z
          · have z2 := un.frzs b ob _ z
            obtain ⟨e1, _⟩ := hok b _ z
            obtain ⟨e2, _⟩ := hok' b _ z2
            rw [e] at e1; cases e1
            exact e2
  cases hk : K.lookup a with
  | some o =>
    -- the script is one of the module's own objects
    have e := KX a o hk
    rw [ha] at e
    cases e
    refine core (fun _ => none) (fun _ => .inl rfl) (.inr ⟨_, vs.toArray, _, hk, rfl, rfl, rfl, by rw [List.size_toArray, lenV]; exact hl, by simpa using rv⟩) (fun b u z => by have z' : (none : Option HO) = some u := z; cases z') (fun b z => absurd rfl z) fun z => absurd rfl z
  | none =>
    refine core (fun b => if b = a then some (.frz { cls := .type "list", data := .seq vs.toArray } (.lst (ns.map V.int))) else none) (fun b => ?_) (.inl (.inr ⟨{ cls := .type "list", data := .seq vs.toArray }, if_pos rfl⟩)) (fun b u z => ?_) (fun b z => ?_) fun _ => hk
    · by_cases hb : b = a
      · exact .inr ⟨_, _, if_pos hb⟩
      · exact .inl (if_neg hb)
    · by_cases hb : b = a
      · have z' := (if_pos hb).symm.trans z
        cases z'
        subst hb
        exact ⟨ha, by rw [List.length_map]; exact hl, vs, _, rv, ha⟩
      · have z' := (if_neg hb).symm.trans z
        cases z'
    · by_cases hb : b = a
      · exact hb
      · exact absurd (if_neg hb) z
end L2

namespace L2
open PySem PySem.Spec PyProof.Rows

theorem walk_of {l : PySem.W.OpenLaw} {n k : Nat} {q : Program} {loose : List Str} {XP : (Str → Option Value) → Heap → Prop} {YP : World → Heap → Prop} {d : DefRec} {K : Params → PySem.W.Frag} {CX : World → CXT} {sp : World → Sp} {x : Str}
    (hn : l.most = some n) (hn2 : n ≤ sizeLine) (hdf : d.params.defaults = []) (hr : Room k callerA)
    (hY : ∀ (w : World) (h : Heap), YP w h → (K w.params).In h)
    (F : ∀ (w : World) (mg : Str → Option Value) (fa : Addr) (h : Heap), (K w.params).In h → h.Ns mainGlobals mg → mg d.name = some (.ref fa) →
      ∃ fd : FuncData, (∀ (s : Shared) (u : Value), BindsTo s fd ⟨[u], []⟩ [(x, u)]) ∧
        ∀ base : Heap, (K w.params).In base → base.Ns mainGlobals mg → FnOk l.prog w (K w.params) mg base (CX w) k fa fd [x] (sp w))
    (hsp : ∀ (w : World) (H : Hp) (a : Addr) (ns : List Int), ns.length ≤ n → Only H → SqL (K w.params) H a (ns.map V.int) → sp w [.ref a] H (fun v _ => v = .bl true) fun _ _ _ => False)
    (hCX : ∀ (w : World) (H : Hp) (s : Shared) (e : Value) (s' : Shared), CX w [] H s (fun _ _ _ => False) e s' → False) :
    PySem.W.WalkO q loose XP YP l.row.toRowW d [] (fun f vs => PySem.call f vs) := by
  refine Att.attach_call hn hdf fun w s₀ s₁ mg mb fa o pm cd doc a vs ns G Y ho hd hcd hmg hobj hints hlen hg => ?_
  have KX := hY w _ Y
  obtain ⟨fd, hb, hF⟩ := F w mg fa _ KX G.T.g hmg
  exact law_call KX G.T.g G.T.b G.T.builtins G.T.nolimit hg hobj hints (Nat.le_trans hlen hn2) hr hF hb (fun H hO hS => hsp w H a ns hlen hO hS) fun H e s' => hCX w H s₁ e s'
theorem walk_ofK {l : PySem.W.OpenLaw} {n k : Nat} {q : Program} {loose : List Str} {XP : (Str → Option Value) → Heap → Prop} {YP : World → Heap → Prop} {d : DefRec} {K : Params → PySem.W.Frag} {CX : CXT} {sp : PySem.W.Frag → Sp} {x : Str}
    (hn : l.most = some n) (hn2 : n ≤ sizeLine) (hdf : d.params.defaults = []) (hr : Room k callerA)
    (hY : ∀ (w : World) (h : Heap), YP w h → (K w.params).In h)
    (F : ∀ (w : World) (mg : Str → Option Value) (fa : Addr) (h : Heap), (K w.params).In h → h.Ns mainGlobals mg → mg d.name = some (.ref fa) →
      ∃ fd : FuncData, (∀ (s : Shared) (u : Value), BindsTo s fd ⟨[u], []⟩ [(x, u)]) ∧
        ∀ base : Heap, (K w.params).In base → base.Ns mainGlobals mg → FnOk l.prog w (K w.params) mg base CX k fa fd [x] (sp (K w.params)))
    (hsp : ∀ (K : PySem.W.Frag) (H : Hp) (a : Addr) (ns : List Int), ns.length ≤ n → Only H → SqL K H a (ns.map V.int) → sp K [.ref a] H (fun v _ => v = .bl true) fun _ _ _ => False)
    (hCX : ∀ (H : Hp) (s : Shared) (e : Value) (s' : Shared), CX [] H s (fun _ _ _ => False) e s' → False) :
    PySem.W.WalkO q loose XP YP l.row.toRowW d [] (fun f vs => PySem.call f vs) :=
  walk_of (K := K) (CX := fun _ => CX) (sp := fun w => sp (K w.params)) hn hn2 hdf hr hY F (fun w H a ns h1 h2 h3 => hsp (K w.params) H a ns h1 h2 h3) fun _ H s e s' => hCX H s e s'
end L2
namespace L2
open PySem PySem.Spec PyProof.Rows

noncomputable def defArgs (s : Stmt) : Arguments := match s with
  | .FunctionDef _ a _ _ _ _ _ _ _ _ => a
  | _ => { posonlyargs := [], args := [], vararg := none, kwonlyargs := [], kw_defaults := [], kwarg := none, defaults := [] }
noncomputable def defBody (s : Stmt) : List Stmt := match s with
  | .FunctionDef _ _ b _ _ _ _ _ _ _ => b
  | _ => []
noncomputable def defScope (s : Stmt) : Scope := match s with
  | .FunctionDef _ _ _ _ _ _ sc _ _ _ => sc
  | _ => { kind := .function, names := [], isGenerator := false, isCoroutine := false }

noncomputable abbrev CX0 : CXT := fun _ _ _ _ _ _ => False
noncomputable abbrev E0 : XK := fun _ _ _ => False
theorem pass0 {X : Cx} : Passes CX0 X E0 := fun _ _ _ _ _ _ _ h => h.elim

structure Fun (K : PySem.W.Frag) (x qual : Str) (st : Stmt) (f : Addr) (fd : FuncData) : Prop where
  ex : ∃ (oc : Value) (od : Option Addr) (kV doc pm : Value) (an : Option Addr) (cdv ct : Value) (osl : Array (Option Value)),
    fd = PySem.W.fnOf x qual (defArgs st) (defBody st) (defScope st) .none kV doc pm an cdv ct ∧ K.lookup f = some ⟨oc, od, .func fd, osl⟩ ∧ PySem.W.codeIn K cdv qual = true
  kp : PySem.W.keepIn K (.ref f) = true
section
variable {P : Program} {w : World} {K : PySem.W.Frag} {mg : Str → Option Value} {base : Heap}
theorem Fun.ok {x qual : Str} {st : Stmt} {f : Addr} {fd : FuncData} {N ps : List Str} {k : Nat} {sp : Sp} (F : Fun K x qual st f fd) (S : FnScope N ps (defScope st)) (len : ∀ vs H Q E, sp vs H Q E → vs.length = ps.length)
    (hbody : ∀ (cdv : Value) (A : Around) (outer : List Env) (s : Shared) (H : Hp) (vs : List V) (Q : VK) (E : XK), Room k (A.deeper (envOfC qual (defScope st) s.heap.objs.size f cdv)) → sp vs H Q E →
      ∃ t, PSs (cxOf CX0 P w K mg base N qual (defScope st) f cdv A outer s H E).nox (defBody st) t ∧ t { nx := fun _ H' => Q .non H', rt := Q } (start N vs) H) : FnOk P w K mg base CX0 (k + 1) f fd ps sp := by
  obtain ⟨oc, od, kV, doc, pm, an, cdv, ct, osl, rfl, lk, hcd⟩ := F.ex
  refine fn_of lk hcd S len fun A outer s H vs Q E hr hsp => ?_
  obtain ⟨t, h, q⟩ := hbody cdv A outer s H vs Q E hr hsp
  exact ⟨t, h.nox, q⟩
theorem Fun.binds {x qual : Str} {st : Stmt} {f : Addr} {fd : FuncData} {ps : List Str} (F : Fun K x qual st f fd)
    (h : ∀ (kV doc pm : Value) (an : Option Addr) (cdv ct : Value) (us : List Value), us.length = ps.length → bindArgs (PySem.W.fnOf x qual (defArgs st) (defBody st) (defScope st) .none kV doc pm an cdv ct) ⟨us, []⟩ = pure (ps.zip us)) : Binds K fd ps [] := by
  obtain ⟨oc, od, kV, doc, pm, an, cdv, ct, osl, rfl, lk, hcd⟩ := F.ex
  exact .all (h kV doc pm an cdv ct)
theorem fun_mk {x qual : Str} {st : Stmt} {f : Addr} {oc : Value} {od an : Option Addr} {osl : Array (Option Value)} {kV doc pm cdv ct : Value} (l : K.lookup f = some ⟨oc, od, .func (PySem.W.fnOf x qual (defArgs st) (defBody st) (defScope st) .none kV doc pm an cdv ct), osl⟩)
    (c : PySem.W.codeIn K cdv qual = true) (k : PySem.W.keepIn K (.ref f) = true) : Fun K x qual st f (PySem.W.fnOf x qual (defArgs st) (defBody st) (defScope st) .none kV doc pm an cdv ct) := ⟨⟨oc, od, kV, doc, pm, an, cdv, ct, osl, rfl, l, c⟩, k⟩
end
theorem small1000 {n : Nat} (h : n ≤ 1000) : n < sizeLine := Nat.lt_of_le_of_lt h (by decide)

section
variable {X : Cx}
theorem pv (i : Nat) {x : Str} {pos : Pos} (hN : X.N[i]? = some x := by rfl) (hv : Vis X.env.scope x := by first | exact Or.inl rfl | exact Or.inr (Or.inl rfl) | exact Or.inr (Or.inr rfl)) (hd : (x == ("__debug__" : Str)) = false := by decide)
    (hcd : (x == ("__classdict__" : Str)) = false := by decide) : PE X (.Name x pos) (tVar i) := pe_var hN hv hd hcd
end

noncomputable def Same (H H' : Hp) : Prop := ∀ b o, H b = some o → H' b = some o
theorem Same.refl (H : Hp) : Same H H := fun _ _ h => h
theorem Same.trans {H H1 H2 : Hp} (a : Same H H1) (b : Same H1 H2) : Same H H2 := fun c o h => b c o (a c o h)
theorem Same.seq {K : PySem.W.Frag} {H H' : Hp} {a : Addr} {xs : List V} (e : Same H H') (h : SqL K H a xs) : SqL K H' a xs := by
  rcases h with (h | ⟨o, h⟩) | h
  · exact .inl (.inl (e _ _ h))
  · exact .inl (.inr ⟨o, e _ _ h⟩)
  · exact .inr h

section
variable {κ : Type} [DecidableEq κ]
end
end L2

set_option Elab.async false
set_option linter.all false
set_option maxRecDepth 100000
namespace M
open PySem PySem.W PySem.Spec PyProof.Rows L2
noncomputable def NF (X : Cx) (a : Addr) : Prop := ∀ o u, X.H₀ a ≠ some (.frz o u)
section
variable {X : Cx} {pins : List (Addr × Obj)} {σ : L2.St} {H : Hp} {s : Shared} {a : Addr} {o : Obj} {kvs : List (List Key × V)}
theorem objOk_tag {P : Program} {w : World} {h : Heap} {b : Addr} {u : HO} (e : H a = some (.dT kvs)) (x : ObjOk P w H h b u) : ObjOk P w (upd H a (.frz o (.dT kvs))) h b u :=
  x.stay (fun c v _ q => q) (fun c q => by rw [upd_ne (ne_of q e (fun z => nomatch z))]; exact q) fun c xs q => by rw [upd_ne (ne_of q e (fun z => nomatch z))]; exact q
theorem _root_.L2.Inv.tag (I : Inv X pins σ H s) (e : H a = some (.dT kvs)) (g : s.heap.get? a = some o) : Inv X pins σ (upd H a (.frz o (.dT kvs))) s ∧ NF X a := by
  have nn : ∀ b, H b = none → b ≠ a := fun b n z => by rw [z, e] at n; cases n
  refine ⟨⟨I.ok, I.os, I.bare, ⟨I.base.keep, I.base.slot, fun b ob q n hx => ?_, I.base.there, fun b xs q => ?_, fun b ob u q => ?_, fun b ps q => ?_⟩, I.loc, I.cell, ?_, fun x c q => ?_, fun p hp => ?_, fun b u q => ?_, I.len⟩, fun ob u q => ?_⟩
  · have := I.base.free b ob q n hx
    rw [upd_ne (nn b this)]; exact this
  · have := I.base.tups b xs q
    rw [upd_ne (ne_of this e (fun z => nomatch z))]; exact this
  · have := I.base.frzs b ob u q
    rw [upd_ne (ne_of this e (fun z => nomatch z))]; exact this
  · obtain ⟨m, this⟩ := I.base.tbls b ps q
    exact ⟨m, by rw [upd_ne (ne_of this e (fun z => nomatch z))]; exact this⟩
  · rw [upd_ne (nn _ I.free)]; exact I.free
  · have := I.freeC x c q
    rw [upd_ne (nn _ this)]; exact this
  · obtain ⟨h1, h2, h3⟩ := I.pin p hp
    exact ⟨h1, by rw [upd_ne (nn _ h2)]; exact h2, h3⟩
  · by_cases hb : b = a
    · subst hb
      rw [upd_same] at q
      cases q
      exact ⟨g, objOk_tag e (I.hok b _ e)⟩
    · rw [upd_ne hb] at q
      exact objOk_tag e (I.hok b u q)
  · have := I.base.frzs a ob u q
    rw [e] at this; cases this
end

theorem pe_tag {X : Cx} {e : Expr} {t : TE} (h : PE X e t) : PE X e (fun σ H Q => t σ H fun v H' => Q v H' ∨ ∃ a ws, v = .ref a ∧ H' a = some (.dT ws) ∧ ∀ o, Q v (upd H' a (.frz o (.dT ws)))) := fun pins s σ H Q I q =>
  thn (h pins s σ H _ I q) fun v s' ⟨x, H', I', r, q⟩ => by
    rcases q with q | ⟨a, ws, rfl, e, q⟩
    · exact ⟨x, H', I', r, q⟩
    · obtain ⟨z, y, xs, rr, o, es, ep, h1, h2⟩ := (show ObjOk X.prog X.w H' s'.heap a (.dT ws) from I'.hok a _ e)
      exact ⟨_, _, (I'.tag e h1).1, r, q o⟩
end M

set_option Elab.async false
set_option linter.all false
set_option maxRecDepth 100000
namespace M
open PySem PySem.Spec PyProof.Rows L2

noncomputable abbrev St := L2.St
inductive D where
  | non | bl (b : Bool) | int (i : Int) | str (s : Str)
  | tup (xs : List D) | lst (xs : List D) | dic (kvs : List (List Int × D))
    | scr (ns : List Int)
instance : Inhabited D := ⟨.non⟩

mutual
noncomputable def Rp (K : PySem.W.Frag) (H : Hp) (O : Addr → Prop) : D → V → Prop
  | .non, v => v = .non
  | .bl b, v => v = .bl b
  | .int i, v => v = .int i
  | .str s, v => v = .str s
  | .tup ds, v => ∃ a vs, v = .ref a ∧ ¬ O a ∧ H a = some (.tup vs) ∧ Rps K H O ds vs
  | .lst ds, v => ∃ a vs, v = .ref a ∧ ¬ O a ∧ H a = some (.lst vs) ∧ Rps K H O ds vs
  | .dic kvs, v => ∃ a ws, v = .ref a ∧ ¬ O a ∧ (∃ o, H a = some (.frz o (.dT ws))) ∧ Rpk K H O kvs ws
  | .scr ns, v => ∃ a, v = .ref a ∧ ((¬ O a ∧ Rd H a (.lst (ns.map V.int))) ∨ SqL K (fun _ => none) a (ns.map V.int))
noncomputable def Rps (K : PySem.W.Frag) (H : Hp) (O : Addr → Prop) : List D → List V → Prop
  | [], vs => vs = []
  | d :: ds, vs => ∃ v r, vs = v :: r ∧ Rp K H O d v ∧ Rps K H O ds r
noncomputable def Rpk (K : PySem.W.Frag) (H : Hp) (O : Addr → Prop) : List (List Int × D) → List (List Key × V) → Prop
  | [], ws => ws = []
  | kd :: r, ws => ∃ v r', ws = (kd.1.map Sum.inl, v) :: r' ∧ Rpq K H O kd v ∧ Rpk K H O r r'
noncomputable def Rpq (K : PySem.W.Frag) (H : Hp) (O : Addr → Prop) : List Int × D → V → Prop
  | (_, d), v => Rp K H O d v
end
section
variable {K : PySem.W.Frag} {H H' : Hp} {O O' : Addr → Prop}
mutual
theorem Rp.mono (s : Same H H') (o : ∀ a, O' a → O a) : ∀ {d : D} {v : V}, Rp K H O d v → Rp K H' O' d v
  | .non, _, h => h
  | .bl _, _, h => h
  | .int _, _, h => h
  | .str _, _, h => h
  | .tup _, _, h => by
    unfold Rp at h ⊢
    obtain ⟨a, vs, e, no, q, r⟩ := h
    exact ⟨a, vs, e, fun z => no (o a z), s _ _ q, Rps.mono s o r⟩
  | .lst _, _, h => by
    unfold Rp at h ⊢
    obtain ⟨a, vs, e, no, q, r⟩ := h
    exact ⟨a, vs, e, fun z => no (o a z), s _ _ q, Rps.mono s o r⟩
  | .dic _, _, h => by
    unfold Rp at h ⊢
    obtain ⟨a, vs, e, no, q, r⟩ := h
    exact ⟨a, vs, e, fun z => no (o a z), q.imp fun _ h => s _ _ h, Rpk.mono s o r⟩
  | .scr _, _, h => by
    unfold Rp at h ⊢
    obtain ⟨a, e, ⟨no, q⟩ | q⟩ := h
    · refine ⟨a, e, .inl ⟨fun z => no (o a z), ?_⟩⟩
      rcases q with q | ⟨ob, q⟩
      · exact .inl (s _ _ q)
      · exact .inr ⟨ob, s _ _ q⟩
    · exact ⟨a, e, .inr q⟩
theorem Rps.mono (s : Same H H') (o : ∀ a, O' a → O a) : ∀ {ds : List D} {vs : List V}, Rps K H O ds vs → Rps K H' O' ds vs
  | [], _, h => h
  | _ :: _, _, h => by
    unfold Rps at h ⊢
    obtain ⟨v, r, e, p, q⟩ := h
    exact ⟨v, r, e, Rp.mono s o p, Rps.mono s o q⟩
theorem Rpk.mono (s : Same H H') (o : ∀ a, O' a → O a) : ∀ {ds : List (List Int × D)} {vs : List (List Key × V)}, Rpk K H O ds vs → Rpk K H' O' ds vs
  | [], _, h => h
  | (_, _) :: _, _, h => by
    unfold Rpk at h ⊢
    obtain ⟨v, r, e, p, q⟩ := h
    unfold Rpq at p ⊢
    exact ⟨v, r, e, Rp.mono s o p, Rpk.mono s o q⟩
end
theorem Rp.scr {ns : List Int} {v : V} (h : Rp K H O (.scr ns) v) : ∃ a, v = .ref a ∧ SqL K H a (ns.map V.int) := by
  unfold Rp at h
  obtain ⟨a, e, ⟨_, q⟩ | q⟩ := h
  · exact ⟨a, e, .inl q⟩
  · exact ⟨a, e, Same.seq (fun _ _ z => by cases z) q⟩
mutual
theorem Rp.fresh {a : Addr} (n : H a = none) : ∀ {d : D} {v : V}, Rp K H O d v → Rp K H (fun b => O b ∨ b = a) d v
  | .non, _, h => h
  | .bl _, _, h => h
  | .int _, _, h => h
  | .str _, _, h => h
  | .tup _, _, h => by
    unfold Rp at h ⊢
    obtain ⟨b, vs, e, no, q, r⟩ := h
    exact ⟨b, vs, e, fun z => z.elim no fun z => (by subst z; rw [n] at q; cases q), q, Rps.fresh n r⟩
  | .lst _, _, h => by
    unfold Rp at h ⊢
    obtain ⟨b, vs, e, no, q, r⟩ := h
    exact ⟨b, vs, e, fun z => z.elim no fun z => (by subst z; rw [n] at q; cases q), q, Rps.fresh n r⟩
  | .dic _, _, h => by
    unfold Rp at h ⊢
    obtain ⟨b, vs, e, no, q, r⟩ := h
    exact ⟨b, vs, e, fun z => z.elim no fun z => (by subst z; obtain ⟨_, q⟩ := q; rw [n] at q; cases q), q, Rpk.fresh n r⟩
  | .scr _, _, h => by
    unfold Rp at h ⊢
    obtain ⟨b, e, ⟨no, q⟩ | q⟩ := h
    · refine ⟨b, e, .inl ⟨fun z => z.elim no fun z => ?_, q⟩⟩
      subst z
      rcases q with q | ⟨ob, q⟩ <;> (rw [n] at q; cases q)
    · exact ⟨b, e, .inr q⟩
theorem Rps.fresh {a : Addr} (n : H a = none) : ∀ {ds : List D} {vs : List V}, Rps K H O ds vs → Rps K H (fun b => O b ∨ b = a) ds vs
  | [], _, h => h
  | _ :: _, _, h => by
    unfold Rps at h ⊢
    obtain ⟨v, r, e, p, q⟩ := h
    exact ⟨v, r, e, Rp.fresh n p, Rps.fresh n q⟩
theorem Rpk.fresh {a : Addr} (n : H a = none) : ∀ {ds : List (List Int × D)} {vs : List (List Key × V)}, Rpk K H O ds vs → Rpk K H (fun b => O b ∨ b = a) ds vs
  | [], _, h => h
  | (_, _) :: _, _, h => by
    unfold Rpk at h ⊢
    obtain ⟨v, r, e, p, q⟩ := h
    unfold Rpq at p ⊢
    exact ⟨v, r, e, Rp.fresh n p, Rpk.fresh n q⟩
end
mutual
theorem Rp.write {a : Addr} {u : HO} (n : O a) : ∀ {d : D} {v : V}, Rp K H O d v → Rp K (upd H a u) O d v
  | .non, _, h => h
  | .bl _, _, h => h
  | .int _, _, h => h
  | .str _, _, h => h
  | .tup _, _, h => by
    unfold Rp at h ⊢
    obtain ⟨b, vs, e, no, q, r⟩ := h
    exact ⟨b, vs, e, no, by rw [upd_ne (fun z => no (by rw [z]; exact n))]; exact q, Rps.write n r⟩
  | .lst _, _, h => by
    unfold Rp at h ⊢
    obtain ⟨b, vs, e, no, q, r⟩ := h
    exact ⟨b, vs, e, no, by rw [upd_ne (fun z => no (by rw [z]; exact n))]; exact q, Rps.write n r⟩
  | .dic _, _, h => by
    unfold Rp at h ⊢
    obtain ⟨b, vs, e, no, q, r⟩ := h
    exact ⟨b, vs, e, no, by rw [upd_ne (fun z => no (by rw [z]; exact n))]; exact q, Rpk.write n r⟩
  | .scr _, _, h => by
    unfold Rp at h ⊢
    obtain ⟨b, e, ⟨no, q⟩ | q⟩ := h
    · refine ⟨b, e, .inl ⟨no, ?_⟩⟩
      have hb : b ≠ a := fun z => no (by rw [z]; exact n)
      unfold Rd
      rw [upd_ne hb]; exact q
    · exact ⟨b, e, .inr q⟩
theorem Rps.write {a : Addr} {u : HO} (n : O a) : ∀ {ds : List D} {vs : List V}, Rps K H O ds vs → Rps K (upd H a u) O ds vs
  | [], _, h => h
  | _ :: _, _, h => by
    unfold Rps at h ⊢
    obtain ⟨v, r, e, p, q⟩ := h
    exact ⟨v, r, e, Rp.write n p, Rps.write n q⟩
theorem Rpk.write {a : Addr} {u : HO} (n : O a) : ∀ {ds : List (List Int × D)} {vs : List (List Key × V)}, Rpk K H O ds vs → Rpk K (upd H a u) O ds vs
  | [], _, h => h
  | (_, _) :: _, _, h => by
    unfold Rpk at h ⊢
    obtain ⟨v, r, e, p, q⟩ := h
    unfold Rpq at p ⊢
    exact ⟨v, r, e, Rp.write n p, Rpk.write n q⟩
end
mutual
theorem Rp.move (m : ∀ a o, ¬ O a → H a = some o → H' a = some o ∧ ¬ O' a) : ∀ {d : D} {v : V}, Rp K H O d v → Rp K H' O' d v
  | .non, _, h => h
  | .bl _, _, h => h
  | .int _, _, h => h
  | .str _, _, h => h
  | .tup _, _, h => by
    unfold Rp at h ⊢
    obtain ⟨b, vs, e, no, q, r⟩ := h
    exact ⟨b, vs, e, (m _ _ no q).2, (m _ _ no q).1, Rps.move m r⟩
  | .lst _, _, h => by
    unfold Rp at h ⊢
    obtain ⟨b, vs, e, no, q, r⟩ := h
    exact ⟨b, vs, e, (m _ _ no q).2, (m _ _ no q).1, Rps.move m r⟩
  | .dic _, _, h => by
    unfold Rp at h ⊢
    obtain ⟨b, vs, e, no, q, r⟩ := h
    exact ⟨b, vs, e, (m _ _ no q.choose_spec).2, q.imp fun _ h => (m _ _ no h).1, Rpk.move m r⟩
  | .scr _, _, h => by
    unfold Rp at h ⊢
    obtain ⟨b, e, ⟨no, q⟩ | q⟩ := h
    · refine ⟨b, e, .inl ?_⟩
      rcases q with q | ⟨ob, q⟩
      · exact ⟨(m _ _ no q).2, .inl (m _ _ no q).1⟩
      · exact ⟨(m _ _ no q).2, .inr ⟨ob, (m _ _ no q).1⟩⟩
    · exact ⟨b, e, .inr q⟩
theorem Rps.move (m : ∀ a o, ¬ O a → H a = some o → H' a = some o ∧ ¬ O' a) : ∀ {ds : List D} {vs : List V}, Rps K H O ds vs → Rps K H' O' ds vs
  | [], _, h => h
  | _ :: _, _, h => by
    unfold Rps at h ⊢
    obtain ⟨v, r, e, p, q⟩ := h
    exact ⟨v, r, e, Rp.move m p, Rps.move m q⟩
theorem Rpk.move (m : ∀ a o, ¬ O a → H a = some o → H' a = some o ∧ ¬ O' a) : ∀ {ds : List (List Int × D)} {vs : List (List Key × V)}, Rpk K H O ds vs → Rpk K H' O' ds vs
  | [], _, h => h
  | (_, _) :: _, _, h => by
    unfold Rpk at h ⊢
    obtain ⟨v, r, e, p, q⟩ := h
    unfold Rpq at p ⊢
    exact ⟨v, r, e, Rp.move m p, Rpk.move m q⟩
end
theorem Rps.nil : Rps K H O [] [] := rfl
theorem Rps.cons {d : D} {v : V} {ds : List D} {vs : List V} (h : Rp K H O d v) (r : Rps K H O ds vs) : Rps K H O (d :: ds) (v :: vs) := by
  unfold Rps; exact ⟨v, vs, rfl, h, r⟩
theorem Rps.length : ∀ {ds : List D} {vs : List V}, Rps K H O ds vs → vs.length = ds.length
  | [], _, h => by unfold Rps at h; subst h; rfl
  | _ :: _, _, h => by
    unfold Rps at h
    obtain ⟨v, r, rfl, p, q⟩ := h
    simp [Rps.length q]
theorem Rps.get : ∀ {ds : List D} {vs : List V} {i : Nat} {d : D}, Rps K H O ds vs → ds[i]? = some d → ∃ v, vs[i]? = some v ∧ Rp K H O d v
  | [], _, _, _, _, e => by simp at e
  | _ :: _, _, 0, _, h, e => by
    unfold Rps at h
    obtain ⟨v, r, rfl, p, q⟩ := h
    simp at e; subst e
    exact ⟨v, rfl, p⟩
  | _ :: _, _, i + 1, _, h, e => by
    unfold Rps at h
    obtain ⟨v, r, rfl, p, q⟩ := h
    simp at e
    obtain ⟨u, h1, h2⟩ := Rps.get q e
    exact ⟨u, by simpa using h1, h2⟩
theorem Rps.append : ∀ {ds es : List D} {vs ws : List V}, Rps K H O ds vs → Rps K H O es ws → Rps K H O (ds ++ es) (vs ++ ws)
  | [], _, _, _, h, g => by unfold Rps at h; subst h; exact g
  | _ :: _, _, _, _, h, g => by
    unfold Rps at h
    obtain ⟨v, r, rfl, p, q⟩ := h
    exact Rps.cons p (Rps.append q g)
theorem Rps.take : ∀ {ds : List D} {vs : List V} (n : Nat), Rps K H O ds vs → Rps K H O (ds.take n) (vs.take n)
  | _, _, 0, _ => by simp; exact Rps.nil
  | [], _, n + 1, h => by unfold Rps at h; subst h; simp; exact Rps.nil
  | _ :: _, _, n + 1, h => by
    unfold Rps at h
    obtain ⟨v, r, rfl, p, q⟩ := h
    exact Rps.cons p (Rps.take n q)
theorem Rps.drop : ∀ {ds : List D} {vs : List V} (n : Nat), Rps K H O ds vs → Rps K H O (ds.drop n) (vs.drop n)
  | _, _, 0, h => by simpa using h
  | [], _, n + 1, h => by unfold Rps at h; subst h; simp; exact Rps.nil
  | _ :: _, _, n + 1, h => by
    unfold Rps at h
    obtain ⟨v, r, rfl, p, q⟩ := h
    simpa using Rps.drop n q
end

inductive R (α : Type) where
  | ok (a : α) | er (c : Nat) | no
noncomputable def R.bind {α β : Type} : R α → (α → R β) → R β
  | .ok a, f => f a
  | .er c, _ => .er c
  | .no, _ => .no
instance : Monad R where
  pure := R.ok
  bind := R.bind
@[simp] theorem R.ok_bind {α β : Type} (a : α) (f : α → R β) : (R.ok a >>= f) = f a := rfl
@[simp] theorem R.er_bind {α β : Type} (c : Nat) (f : α → R β) : (R.er c >>= f) = R.er c := rfl
@[simp] theorem R.no_bind {α β : Type} (f : α → R β) : ((R.no : R α) >>= f) = R.no := rfl
@[simp] theorem R.pure_ok {α : Type} (a : α) : (pure a : R α) = R.ok a := rfl
noncomputable def Fin {α : Type} (r : R α) (p : α → Prop) (x : Nat → Prop) : Prop := match r with
  | .ok a => p a
  | .er c => x c
  | .no => False
theorem Fin.bind {α β : Type} {r : R α} {f : α → R β} {p : β → Prop} {x : Nat → Prop} (h : Fin (r >>= f) p x) : Fin r (fun a => Fin (f a) p x) x := by
  cases r <;> exact h
theorem Fin.mono {α : Type} {r : R α} {p q : α → Prop} {x : Nat → Prop} (h : Fin r p x) (f : ∀ a, p a → q a) : Fin r q x := by
  cases r with
  | ok a => exact f a h
  | er c => exact h
  | no => exact h

inductive Sl where
  | un | fz (d : D) | ow (d : D)
noncomputable abbrev Ev := List Sl
structure Fc where
  h0 : Hp
  pr : Addr → Prop
  xc : Nat → Prop
noncomputable def Ow (pr : Addr → Prop) (E : Ev) (σ : St) (a : Addr) : Prop := pr a ∨ ∃ (i : Nat) (d : D), E[i]? = some (.ow d) ∧ σ[i]? = some (some (.ref a))
noncomputable def Own (K : PySem.W.Frag) (H : Hp) (O : Addr → Prop) : D → Addr → Prop
  | .lst ds, a => ∃ vs, H a = some (.lst vs) ∧ Rps K H O ds vs
  | .dic kvs, a => ∃ ws, H a = some (.dT ws) ∧ Rpk K H O kvs ws
  | _, _ => False
theorem Own.mono {K : PySem.W.Frag} {H H' : Hp} {O O' : Addr → Prop} {d : D} {a : Addr} (s : Same H H') (o : ∀ a, O' a → O a) (h : Own K H O d a) : Own K H' O' d a := by
  cases d with
  | lst ds => obtain ⟨vs, e, r⟩ := h; exact ⟨vs, s _ _ e, r.mono s o⟩
  | dic ds => obtain ⟨vs, e, r⟩ := h; exact ⟨vs, s _ _ e, r.mono s o⟩
  | _ => exact h
noncomputable def NoTup : HO → Prop
  | .tup _ => False
  | _ => True
noncomputable def Sane (H : Hp) (O : Addr → Prop) : Prop := ∀ a, O a → ∃ o, H a = some o ∧ NoTup o
theorem Sane.fr {H : Hp} {O : Addr → Prop} (h : Sane H O) {p : Addr} (hp : H p = none) : ¬ O p := fun z => by
  obtain ⟨o, e, _⟩ := h p z
  rw [hp] at e; cases e
theorem Sane.tup {H : Hp} {O : Addr → Prop} (h : Sane H O) {p : Addr} {vs : List V} (hp : H p = some (.tup vs)) : ¬ O p := fun z => by
  obtain ⟨o, e, n⟩ := h p z
  rw [hp] at e; cases e; exact n
theorem Own.there {K : PySem.W.Frag} {H : Hp} {O : Addr → Prop} {d : D} {a : Addr} (h : Own K H O d a) : ∃ o, H a = some o ∧ NoTup o := by
  cases d with
  | lst ds => obtain ⟨vs, e, r⟩ := h; exact ⟨_, e, True.intro⟩
  | dic ds => obtain ⟨vs, e, r⟩ := h; exact ⟨_, e, True.intro⟩
  | _ => exact h.elim
noncomputable def isDic : D → Bool
  | .dic _ => true
  | _ => false
theorem Own.rp {K : PySem.W.Frag} {H : Hp} {O : Addr → Prop} {d : D} {a : Addr} (h : Own K H O d a) (no : ¬ O a) (hd : isDic d = false) : Rp K H O d (.ref a) := by
  cases d with
  | lst ds => obtain ⟨vs, e, r⟩ := h; unfold Rp; exact ⟨a, vs, rfl, no, e, r⟩
  | dic ds => cases hd
  | _ => exact h.elim
section
variable {K : PySem.W.Frag} {H : Hp} {O : Addr → Prop} {a : Addr} {ob : Obj} {kvs : List (List Key × V)}
mutual
theorem Rp.tag (n : H a = some (.dT kvs)) : ∀ {d : D} {v : V}, Rp K H O d v → Rp K (upd H a (.frz ob (.dT kvs))) O d v
  | .non, _, h => h
  | .bl _, _, h => h
  | .int _, _, h => h
  | .str _, _, h => h
  | .tup _, _, h => by
    unfold Rp at h ⊢
    obtain ⟨b, vs, e, no, q, r⟩ := h
    exact ⟨b, vs, e, no, by rw [upd_ne (fun z => by rw [z, n] at q; cases q)]; exact q, Rps.tag n r⟩
  | .lst _, _, h => by
    unfold Rp at h ⊢
    obtain ⟨b, vs, e, no, q, r⟩ := h
    exact ⟨b, vs, e, no, by rw [upd_ne (fun z => by rw [z, n] at q; cases q)]; exact q, Rps.tag n r⟩
  | .dic _, _, h => by
    unfold Rp at h ⊢
    obtain ⟨b, vs, e, no, ⟨o, q⟩, r⟩ := h
    exact ⟨b, vs, e, no, ⟨o, by rw [upd_ne (fun z => by rw [z, n] at q; cases q)]; exact q⟩, Rpk.tag n r⟩
  | .scr _, _, h => by
    unfold Rp at h ⊢
    obtain ⟨b, e, ⟨no, q⟩ | q⟩ := h
    · refine ⟨b, e, .inl ⟨no, ?_⟩⟩
      have hb : b ≠ a := fun z => by
        subst z
        rcases q with q | ⟨o, q⟩ <;> (rw [n] at q; cases q)
      unfold Rd
      rw [upd_ne hb]; exact q
    · exact ⟨b, e, .inr q⟩
theorem Rps.tag (n : H a = some (.dT kvs)) : ∀ {ds : List D} {vs : List V}, Rps K H O ds vs → Rps K (upd H a (.frz ob (.dT kvs))) O ds vs
  | [], _, h => h
  | _ :: _, _, h => by
    unfold Rps at h ⊢
    obtain ⟨v, r, e, p, q⟩ := h
    exact ⟨v, r, e, Rp.tag n p, Rps.tag n q⟩
theorem Rpk.tag (n : H a = some (.dT kvs)) : ∀ {ds : List (List Int × D)} {vs : List (List Key × V)}, Rpk K H O ds vs → Rpk K (upd H a (.frz ob (.dT kvs))) O ds vs
  | [], _, h => h
  | (_, _) :: _, _, h => by
    unfold Rpk at h ⊢
    obtain ⟨v, r, e, p, q⟩ := h
    unfold Rpq at p ⊢
    exact ⟨v, r, e, Rp.tag n p, Rpk.tag n q⟩
end
end
theorem Own.tagged {K : PySem.W.Frag} {H : Hp} {O : Addr → Prop} {ds : List (List Int × D)} {a : Addr} (h : Own K H O (.dic ds) a) (no : ¬ O a) : ∃ ws, H a = some (.dT ws) ∧ ∀ o, Rp K (upd H a (.frz o (.dT ws))) O (.dic ds) (.ref a) := by
  obtain ⟨ws, e, r⟩ := h
  refine ⟨ws, e, fun o => ?_⟩
  unfold Rp
  exact ⟨a, ws, rfl, no, ⟨o, upd_same⟩, r.tag e⟩
structure Rel (K : PySem.W.Frag) (G : Fc) (E : Ev) (σ : St) (H : Hp) : Prop where
  len : E.length = σ.length
  fz : ∀ (i : Nat) d, E[i]? = some (.fz d) → ∃ v, σ[i]? = some (some v) ∧ Rp K H (Ow G.pr E σ) d v
  ow : ∀ (i : Nat) d, E[i]? = some (.ow d) → ∃ a, σ[i]? = some (some (.ref a)) ∧ Own K H (Ow G.pr E σ) d a ∧ G.h0 a = none
  ne : ∀ (i j : Nat) d e a, E[i]? = some (.ow d) → E[j]? = some (.ow e) → σ[i]? = some (some (.ref a)) → σ[j]? = some (some (.ref a)) → i = j
  base : Same G.h0 H
  prt : ∀ a, G.pr a → ∃ o, G.h0 a = some o ∧ NoTup o
section
variable {K : PySem.W.Frag} {G : Fc} {E : Ev} {σ : St} {H H' : Hp}
theorem Rel.same (r : Rel K G E σ H) (s : Same H H') : Rel K G E σ H' where
  len := r.len
  fz := fun i d e => by obtain ⟨v, h1, h2⟩ := r.fz i d e; exact ⟨v, h1, h2.mono s fun _ z => z⟩
  ow := fun i d e => by obtain ⟨a, h1, h2, h3⟩ := r.ow i d e; exact ⟨a, h1, h2.mono s fun _ z => z, h3⟩
  ne := r.ne
  base := r.base.trans s
  prt := r.prt
theorem Rel.owned (r : Rel K G E σ H) {a : Addr} (h : Ow G.pr E σ a) : ∃ o, H a = some o ∧ NoTup o := by
  rcases h with h | ⟨i, d, h1, h2⟩
  · obtain ⟨o, e, n⟩ := r.prt a h
    exact ⟨o, r.base _ _ e, n⟩
  · obtain ⟨b, e1, e2, _⟩ := r.ow i d h1
    rw [h2] at e1; cases e1
    exact e2.there
theorem Rel.fresh (r : Rel K G E σ H) {a : Addr} (h : H a = none) : ¬ Ow G.pr E σ a := fun z => by
  obtain ⟨o, e, _⟩ := r.owned z
  rw [h] at e; cases e
theorem Rel.sane (r : Rel K G E σ H) : Sane H (Ow G.pr E σ) := fun a h => r.owned h
end
theorem same_upd {H : Hp} {p : Addr} {o : HO} (h : H p = none) : Same H (upd H p o) := fun b u e => by
  rw [upd_ne (ne_of_none e h)]; exact e

noncomputable def Rt (K : PySem.W.Frag) (H : Hp) (O : Addr → Prop) (d : D) (v : V) : Prop := Rp K H O d v ∨ ∃ a, v = .ref a ∧ Own K H O d a
theorem Rt.mono {K : PySem.W.Frag} {H H' : Hp} {O O' : Addr → Prop} {d : D} {v : V} (s : Same H H') (o : ∀ a, O' a → O a) (h : Rt K H O d v) : Rt K H' O' d v := by
  rcases h with h | ⟨a, e, h⟩
  · exact .inl (h.mono s o)
  · exact .inr ⟨a, e, h.mono s o⟩
section
variable {K : PySem.W.Frag} {H : Hp} {O : Addr → Prop} {v : V}
theorem Rt.int {i : Int} (h : Rt K H O (.int i) v) : v = .int i := by
  rcases h with h | ⟨a, e, h⟩
  · exact h
  · exact h.elim
theorem Rt.bl {i : Bool} (h : Rt K H O (.bl i) v) : v = .bl i := by
  rcases h with h | ⟨a, e, h⟩
  · exact h
  · exact h.elim
theorem Rt.str {i : Str} (h : Rt K H O (.str i) v) : v = .str i := by
  rcases h with h | ⟨a, e, h⟩
  · exact h
  · exact h.elim
theorem Rt.non (h : Rt K H O .non v) : v = .non := by
  rcases h with h | ⟨a, e, h⟩
  · exact h
  · exact h.elim
theorem Rt.lst {ds : List D} (h : Rt K H O (.lst ds) v) : ∃ a vs, v = .ref a ∧ H a = some (.lst vs) ∧ Rps K H O ds vs := by
  rcases h with h | ⟨a, e, vs, q, r⟩
  · unfold Rp at h
    obtain ⟨a, vs, e, _, q, r⟩ := h
    exact ⟨a, vs, e, q, r⟩
  · exact ⟨a, vs, e, q, r⟩
theorem Rt.tup {ds : List D} (h : Rt K H O (.tup ds) v) : ∃ a vs, v = .ref a ∧ H a = some (.tup vs) ∧ Rps K H O ds vs := by
  rcases h with h | ⟨a, e, h⟩
  · unfold Rp at h
    obtain ⟨a, vs, e, _, q, r⟩ := h
    exact ⟨a, vs, e, q, r⟩
  · exact h.elim
theorem Rt.dic {ds : List (List Int × D)} (h : Rt K H O (.dic ds) v) : ∃ a vs, v = .ref a ∧ Rd H a (.dT vs) ∧ Rpk K H O ds vs := by
  rcases h with h | ⟨a, e, vs, q, r⟩
  · unfold Rp at h
    obtain ⟨a, vs, e, _, q, r⟩ := h
    exact ⟨a, vs, e, .inr q, r⟩
  · exact ⟨a, vs, e, .inl q, r⟩
end

noncomputable abbrev EV := Ev → R D
inductive Out where
  | nx (E : Ev) | bk (E : Ev) | ct (E : Ev) | rt (d : D)
noncomputable abbrev EX := Ev → R Out

noncomputable def SE (X : Cx) (G : Fc) (e : Expr) (m : EV) : Prop :=
  PE X e fun σ H Q => ∃ E, Rel X.K G E σ H ∧ Fin (m E) (fun d => ∀ v H', Same H H' → Rt X.K H' (Ow G.pr E σ) d v → Q v H') G.xc
noncomputable def SF (X : Cx) (G : Fc) (e : Expr) (m : EV) : Prop :=
  PE X e fun σ H Q => ∃ E, Rel X.K G E σ H ∧ Fin (m E) (fun d => ∀ v H', Same H H' → Rp X.K H' (Ow G.pr E σ) d v → Q v H') G.xc
noncomputable def SN (X : Cx) (G : Fc) (e : Expr) (m : EV) : Prop :=
  PE X e fun σ H Q => ∃ E, Rel X.K G E σ H ∧ Fin (m E) (fun d => ∀ a H', Same H H' → H a = none → Own X.K H' (fun b => Ow G.pr E σ b ∨ b = a) d a → Q (.ref a) H') G.xc
noncomputable def ST (X : Cx) (G : Fc) (e : Expr) (m : Ev → R Bool) : Prop :=
  PT X e fun σ H Q => ∃ E, Rel X.K G E σ H ∧ Fin (m E) (fun b => ∀ H', Same H H' → Q b H') G.xc
noncomputable def SA (X : Cx) (G : Fc) (es : List Expr) (m : Ev → R (List D)) : Prop :=
  PA X es fun σ H Q => ∃ E, Rel X.K G E σ H ∧ Fin (m E) (fun ds => ∀ vs H', Same H H' → Rps X.K H' (Ow G.pr E σ) ds vs → Q vs H') G.xc
noncomputable def OutOk (K : PySem.W.Frag) (G : Fc) (Dn : Ends) : Out → Prop
  | .nx E => ∀ σ H, Rel K G E σ H → Dn.nx σ H
  | .bk E => ∀ σ H, Rel K G E σ H → Dn.bk σ H
  | .ct E => ∀ σ H, Rel K G E σ H → Dn.ct σ H
  | .rt d => ∀ v H, Same G.h0 H → Rp K H G.pr d v → Dn.rt v H
noncomputable def SS (X : Cx) (G : Fc) (st : Stmt) (m : EX) : Prop :=
  PS X st fun Dn σ H => ∃ E, Rel X.K G E σ H ∧ Fin (m E) (OutOk X.K G Dn) G.xc
noncomputable def SB (X : Cx) (G : Fc) (st : List Stmt) (m : EX) : Prop :=
  PSs X st fun Dn σ H => ∃ E, Rel X.K G E σ H ∧ Fin (m E) (OutOk X.K G Dn) G.xc

theorem _root_.L2.PE.imp {X : Cx} {e : Expr} {t t' : TE} (h : PE X e t) (i : ∀ σ H Q, t' σ H Q → t σ H Q) : PE X e t' := fun pins s σ H Q I q => h pins s σ H Q I (i σ H Q q)
theorem _root_.L2.PT.imp {X : Cx} {e : Expr} {t t' : TT} (h : PT X e t) (i : ∀ σ H Q, t' σ H Q → t σ H Q) : PT X e t' := fun pins s σ H Q I q => h pins s σ H Q I (i σ H Q q)
theorem _root_.L2.PA.imp {X : Cx} {e : List Expr} {t t' : TA} (h : PA X e t) (i : ∀ σ H Q, t' σ H Q → t σ H Q) : PA X e t' := fun pos pins s σ H Q I q => h pos pins s σ H Q I (i σ H Q q)
theorem _root_.L2.PS.imp {X : Cx} {e : Stmt} {t t' : TS} (h : PS X e t) (i : ∀ D σ H, t' D σ H → t D σ H) : PS X e t' := fun pins s σ H Q I q => h pins s σ H Q I (i Q σ H q)
theorem _root_.L2.PSs.imp {X : Cx} {e : List Stmt} {t t' : TS} (h : PSs X e t) (i : ∀ D σ H, t' D σ H → t D σ H) : PSs X e t' := fun pins s σ H Q I q => h pins s σ H Q I (i Q σ H q)

section
variable {X : Cx} {G : Fc} {e : Expr} {m : EV}
theorem SF.se (h : SF X G e m) : SE X G e m := PE.imp h fun σ H Q ⟨E, r, f⟩ => ⟨E, r, f.mono fun d q v H' s p => q v H' s (.inl p)⟩
theorem SN.sf (h : SN X G e m) : SF X G e m := PE.imp (pe_tag h) fun σ H Q ⟨E, r, f⟩ => ⟨E, r, f.mono fun d q a H' s n p => by
  have p' := p.mono (O' := Ow G.pr E σ) (Same.refl _) fun _ z => .inl z
  cases hd : isDic d with
  | false => exact .inl (q (.ref a) H' s (p'.rp (r.fresh n) hd))
  | true =>
    cases d with
    | dic ds =>
      obtain ⟨ws, e, z⟩ := p'.tagged (r.fresh n)
      exact .inr ⟨a, ws, rfl, e, fun o => q (.ref a) _ (fun b u hb => by rw [upd_ne (ne_of_none hb n)]; exact s _ _ hb) (z o)⟩
    | _ => cases hd⟩
theorem SN.se (h : SN X G e m) : SE X G e m := h.sf.se
theorem rt_grow {K : PySem.W.Frag} {H H' : Hp} {O : Addr → Prop} {d : D} {v : V} (h : Rt K H O d v) (s : Same H H') : Rt K H' O d v := h.mono s fun _ z => z
end
end M

set_option Elab.async false
set_option linter.all false
set_option maxRecDepth 100000
namespace M
open PySem PySem.Spec PyProof.Rows L2

noncomputable def ofO {α : Type} : Option α → R α
  | some a => .ok a
  | none => .no
@[simp] theorem ofO_some {α : Type} (a : α) : ofO (some a) = .ok a := rfl
@[simp] theorem ofO_none {α : Type} : ofO (none : Option α) = .no := rfl
theorem Fin.of {α : Type} {o : Option α} {p : α → Prop} {x : Nat → Prop} (h : Fin (ofO o) p x) : ∃ a, o = some a ∧ p a := by
  cases o with
  | none => exact h.elim
  | some a => exact ⟨a, rfl, h⟩

noncomputable def vE (i : Nat) : EV := fun E => match E[i]? with
  | some (.fz d) => .ok d
  | some (.ow d) => .ok d
  | _ => .no
noncomputable def vF (i : Nat) : EV := fun E => match E[i]? with
  | some (.fz d) => .ok d
  | _ => .no
noncomputable def kE (d : D) : EV := fun _ => .ok d
noncomputable def e1 (f : D → Option D) (a : EV) : EV := fun E => a E >>= fun x => ofO (f x)
noncomputable def e2 (f : D → D → Option D) (a b : EV) : EV := fun E => a E >>= fun x => b E >>= fun y => ofO (f x y)
noncomputable def aNil : Ev → R (List D) := fun _ => .ok []
noncomputable def aCons (a : EV) (r : Ev → R (List D)) : Ev → R (List D) := fun E => a E >>= fun x => r E >>= fun xs => .ok (x :: xs)
noncomputable def tstB (a : EV) : Ev → R Bool := fun E => a E >>= fun d => match d with
  | .bl b => .ok b
  | _ => .no

section
variable {X : Cx} {G : Fc}

theorem se_var (i : Nat) {x : Str} {pos : Pos} (hN : X.N[i]? = some x := by rfl) (hv : Vis X.env.scope x := by first | exact Or.inl rfl | exact Or.inr (Or.inl rfl) | exact Or.inr (Or.inr rfl)) (hd : (x == ("__debug__" : Str)) = false := by decide)
    (hcd : (x == ("__classdict__" : Str)) = false := by decide) : SE X G (.Name x pos) (vE i) := (pe_var hN hv hd hcd).imp fun σ H Q z0 => z0.elim fun E z0 => z0.elim fun r f => by
  unfold vE at f
  revert f
  cases h : E[i]? with
  | none => exact fun f => f.elim
  | some sl =>
    cases sl with
    | un => exact fun f => f.elim
    | fz d => exact fun f => by obtain ⟨v, e, p⟩ := r.fz i d h; exact ⟨v, e, f v H (Same.refl _) (.inl p)⟩
    | ow d => exact fun f => by obtain ⟨a, e, p, _⟩ := r.ow i d h; exact ⟨_, e, f _ H (Same.refl _) (.inr ⟨a, rfl, p⟩)⟩
theorem sf_var (i : Nat) {x : Str} {pos : Pos} (hN : X.N[i]? = some x := by rfl) (hv : Vis X.env.scope x := by first | exact Or.inl rfl | exact Or.inr (Or.inl rfl) | exact Or.inr (Or.inr rfl)) (hd : (x == ("__debug__" : Str)) = false := by decide)
    (hcd : (x == ("__classdict__" : Str)) = false := by decide) : SF X G (.Name x pos) (vF i) := (pe_var hN hv hd hcd).imp fun σ H Q z0 => z0.elim fun E z0 => z0.elim fun r f => by
  unfold vF at f
  revert f
  cases h : E[i]? with
  | none => exact fun f => f.elim
  | some sl =>
    cases sl with
    | un => exact fun f => f.elim
    | fz d => exact fun f => by obtain ⟨v, e, p⟩ := r.fz i d h; exact ⟨v, e, f v H (Same.refl _) p⟩
    | ow d => exact fun f => f.elim
theorem sf_int {i j pos} : SF X G (.Constant (.int i) j pos) (kE (.int i)) := pe_int.imp fun σ H Q z0 => z0.elim fun E z0 => z0.elim fun r f => f _ H (Same.refl _) rfl
theorem sf_bl {i j pos} : SF X G (.Constant (.bool i) j pos) (kE (.bl i)) := pe_bl.imp fun σ H Q z0 => z0.elim fun E z0 => z0.elim fun r f => f _ H (Same.refl _) rfl
theorem sf_glob {x : Str} {i : Int} {u : Value} {pos : Pos} (hg : Gl X x) (hm : X.mg x = some u) (r : RelV (.int i) u) (hd : (x == ("__debug__" : Str)) = false := by decide) : SF X G (.Name x pos) (kE (.int i)) :=
  (pe_glob hg hm r hd).imp fun σ H Q z0 => z0.elim fun E z0 => z0.elim fun r f => f _ H (Same.refl _) rfl

noncomputable def OpD (K : PySem.W.Frag) (r : R2) (f : D → D → Option D) : Prop :=
  ∀ (H : Hp) (O : Addr → Prop) (dx dy d : D) (v w : V) (Q : VK), Sane H O → f dx dy = some d → Rt K H O dx v → Rt K H O dy w → (∀ u H', Same H H' → Rp K H' O d u → Q u H') → r v w H Q
theorem two {r : R2} {f : D → D → Option D} {ma mb : EV} {a b : Expr} {P : D → Prop} {σ : St} {H : Hp} {Q : VK} {E : Ev} (hr : Rel X.K G E σ H) (h : Fin (e2 f ma mb E) P G.xc)
    (k : ∀ (H2 : Hp) (dx dy d : D) (v w : V), Same H H2 → f dx dy = some d → P d → Rt X.K H2 (Ow G.pr E σ) dx v → Rt X.K H2 (Ow G.pr E σ) dy w → r v w H2 Q) :
    tOp r (fun σ H Q => ∃ E, Rel X.K G E σ H ∧ Fin (ma E) (fun d => ∀ v H', Same H H' → Rt X.K H' (Ow G.pr E σ) d v → Q v H') G.xc)
      (fun σ H Q => ∃ E, Rel X.K G E σ H ∧ Fin (mb E) (fun d => ∀ v H', Same H H' → Rt X.K H' (Ow G.pr E σ) d v → Q v H') G.xc) σ H Q := by
  refine ⟨E, hr, (Fin.bind h).mono fun dx fx v H1 s1 p1 => ⟨E, hr.same s1, (Fin.bind fx).mono fun dy fy w H2 s2 p2 => ?_⟩⟩
  obtain ⟨d, e, q⟩ := Fin.of fy
  exact k H2 dx dy d v w (s1.trans s2) e q (rt_grow p1 s2) p2
section
variable {a b : Expr} {ma mb : EV} {pos : Pos} {f : D → D → Option D} {r : R2}
theorem sf_bin {op : Operator} (ho : OpR X (binaryOp op) r) (hf : OpD X.K r f) (ha : SE X G a ma) (hb : SE X G b mb) : SF X G (.BinOp a op b pos) (e2 f ma mb) :=
  (pe_op ho ha hb).imp fun σ H Q z0 => z0.elim fun E z0 => z0.elim fun hr h => two (a := a) (b := b) hr h fun H2 dx dy d v w s e p rv rw => hf H2 _ dx dy d v w Q (hr.same s).sane e rv rw fun u H' s' z => p u H' (s.trans s') z
theorem sf_cmp {op : CmpOp} (ho : OpR X (compareOp op) r) (hf : OpD X.K r f) (ha : SE X G a ma) (hb : SE X G b mb) (hm : behindInMarks op b = false) : SF X G (.Compare a [op] [b] pos) (e2 f ma mb) :=
  (pe_cmpR ho ha hb hm).imp fun σ H Q z0 => z0.elim fun E z0 => z0.elim fun hr h => two (a := a) (b := b) hr h fun H2 dx dy d v w s e p rv rw => hf H2 _ dx dy d v w Q (hr.same s).sane e rv rw fun u H' s' z => p u H' (s.trans s') z
theorem sf_ix (hs : PlainIx b) (ho : IxR X r) (hf : OpD X.K r f) (ha : SE X G a ma) (hb : SE X G b mb) : SF X G (.Subscript a b pos) (e2 f ma mb) :=
  (pe_ix ho ha hb hs).imp fun σ H Q z0 => z0.elim fun E z0 => z0.elim fun hr h => two (a := a) (b := b) hr h fun H2 dx dy d v w s e p rv rw => hf H2 _ dx dy d v w Q (hr.same s).sane e rv rw fun u H' s' z => p u H' (s.trans s') z
theorem st_cmp {op : CmpOp} (ho : OpR X (compareOp op) r) (hf : OpD X.K r f) (ha : SE X G a ma) (hb : SE X G b mb) (hm : behindInMarks op b = false) : ST X G (.Compare a [op] [b] pos) (tstB (e2 f ma mb)) :=
  (pt_cmpR ho ha hb hm).imp fun σ H Q z0 => z0.elim fun E z0 => z0.elim fun hr h => by
    refine two (a := a) (b := b) (P := fun d => Fin (match d with | .bl b => R.ok b | _ => .no) (fun b => ∀ H', Same H H' → Q b H') G.xc) hr (Fin.bind h) fun H2 dx dy d v w s e p rv rw => hf H2 _ dx dy d v w _ (hr.same s).sane e rv rw fun u H' s' z => ?_
    cases d with
    | bl k => exact ⟨k, z, p H' (s.trans s')⟩
    | _ => exact p.elim
theorem st_val {e : Expr} {m : EV} (h : SE X G e m) (he : ∀ whole, isTrue e X.env whole = (do let v ← whole; standAt e.pos; holding [v] (truthy v)) := by intro _; rfl) : ST X G e (tstB m) :=
  (pt_val h he).imp fun σ H Q z0 => z0.elim fun E z0 => z0.elim fun hr f => ⟨E, hr, (Fin.bind f).mono fun d p v H' s z => by
    cases d with
    | bl k => exact ⟨k, z.bl, p H' s⟩
    | _ => exact p.elim⟩
end

noncomputable def truD : D → Option Bool
  | .non => some false
  | .bl b => some b
  | .int i => some (i != 0)
  | .lst ds => some (!ds.isEmpty)
  | .tup ds => some (!ds.isEmpty)
  | _ => none
noncomputable def tstV (a : EV) : Ev → R Bool := fun E => a E >>= fun d => ofO (truD d)

section
variable {a b c : Expr} {ma mb : EV} {pos : Pos} {ta tb tc : Ev → R Bool} {rest : List Expr}
noncomputable def bAnd (t u : Ev → R Bool) : Ev → R Bool := fun E => t E >>= fun k => if k = true then u E else .ok false
noncomputable def bOr (t u : Ev → R Bool) : Ev → R Bool := fun E => t E >>= fun k => if k = true then .ok true else u E
noncomputable def bNot (t : Ev → R Bool) : Ev → R Bool := fun E => t E >>= fun k => .ok (!k)
noncomputable def SW (X : Cx) (G : Fc) (e : Expr) (m : Ev → R Bool) : Prop :=
  PW X e fun σ H Q => ∃ E, Rel X.K G E σ H ∧ Fin (m E) (fun b => ∀ H', Same H H' → Q b H') G.xc
theorem SW.st {m : Ev → R Bool} (h : SW X G a m) : ST X G a m := PW.pt h
theorem sw_and1 (ha : ST X G a ta) : SW X G (.BoolOp .And [a] pos) ta := pw_and1 ha
theorem sw_or1 (ha : ST X G a ta) : SW X G (.BoolOp .Or [a] pos) ta := pw_or1 ha
theorem sw_and (ha : ST X G a ta) (hb : SW X G (.BoolOp .And (b :: rest) pos) tb) : SW X G (.BoolOp .And (a :: b :: rest) pos) (bAnd ta tb) := by
  rintro wh pins s σ H Q I ⟨E, hr, f⟩
  refine pw_and ha hb wh pins s σ H Q I ⟨E, hr, (Fin.bind f).mono fun k p H' s' => ?_⟩
  cases k with
  | true => exact ⟨E, hr.same s', Fin.mono p fun b q H2 s2 => q H2 (s'.trans s2)⟩
  | false => exact p H' s'
theorem sw_or (ha : ST X G a ta) (hb : SW X G (.BoolOp .Or (b :: rest) pos) tb) : SW X G (.BoolOp .Or (a :: b :: rest) pos) (bOr ta tb) := by
  rintro wh pins s σ H Q I ⟨E, hr, f⟩
  refine pw_or ha hb wh pins s σ H Q I ⟨E, hr, (Fin.bind f).mono fun k p H' s' => ?_⟩
  cases k with
  | false => exact ⟨E, hr.same s', Fin.mono p fun b q H2 s2 => q H2 (s'.trans s2)⟩
  | true => exact p H' s'
theorem st_not (ha : ST X G a ta) : ST X G (.UnaryOp .Not a pos) (bNot ta) := (pt_not ha).imp fun σ H Q ⟨E, hr, f⟩ => ⟨E, hr, (Fin.bind f).mono fun k p H' s => p H' s⟩
noncomputable def eAnd (t u : EV) : EV := fun E => t E >>= fun d => match d with
  | .bl true => u E
  | .bl false => .ok (.bl false)
  | _ => .no
noncomputable def eOr (t u : EV) : EV := fun E => t E >>= fun d => match d with
  | .bl true => .ok (.bl true)
  | .bl false => u E
  | _ => .no
noncomputable def eNot (t : EV) : EV := fun E => t E >>= fun d => match d with
  | .bl k => .ok (.bl (!k))
  | _ => .no
theorem sf_one {op} (ha : SF X G a ma) : SF X G (.BoolOp op [a] pos) ma := pe_one ha
theorem sf_and (ha : SF X G a ma) (hb : SF X G (.BoolOp .And (b :: rest) pos) mb) : SF X G (.BoolOp .And (a :: b :: rest) pos) (eAnd ma mb) :=
  (pe_and ha hb).imp fun σ H Q z0 => z0.elim fun E z0 => z0.elim fun hr f => ⟨E, hr, (Fin.bind f).mono fun d p v H' s z => by
    cases d with
    | bl k =>
      refine ⟨k, z, ?_⟩
      cases k with
      | true => exact ⟨E, hr.same s, Fin.mono p fun b q u H2 s2 y => q u H2 (s.trans s2) y⟩
      | false => exact p _ H' s rfl
    | _ => exact p.elim⟩
noncomputable def eIf (t : Ev → R Bool) (a b : EV) : EV := fun E => t E >>= fun k => if k = true then a E else b E
end

section
variable {e : Expr} {es : List Expr} {m : EV} {t : Ev → R (List D)} {pos : Pos}
theorem sa_nil : SA X G [] aNil := pa_nil.imp fun σ H Q z0 => z0.elim fun E z0 => z0.elim fun hr f => f [] H (Same.refl _) rfl
theorem sa_cons (he : SF X G e m) (hr : SA X G es t) (hs : starEach (e :: es) X.env = (false, eval e X.env) :: starEach es X.env := by rfl) : SA X G (e :: es) (aCons m t) :=
  (pa_cons he hr hs).imp fun σ H Q ⟨E, hr, f⟩ => ⟨E, hr, (Fin.bind f).mono fun d fx v H1 s1 p1 => ⟨E, hr.same s1, (Fin.bind fx).mono fun ds fy vs H2 s2 p2 =>
    fy (v :: vs) H2 (s1.trans s2) (Rps.cons (p1.mono s2 fun _ z => z) p2)⟩⟩
noncomputable def eTup (t : Ev → R (List D)) : EV := fun E => t E >>= fun ds => if ds.length ≤ 1000 then .ok (.tup ds) else .no
noncomputable def eLst (t : Ev → R (List D)) : EV := fun E => t E >>= fun ds => if ds.length ≤ 1000 then .ok (.lst ds) else .no
theorem sf_tup {x1} (h : SA X G es t) : SF X G (.Tuple es x1 pos) (eTup t) :=
  (pe_tup h).imp fun σ H Q z0 => z0.elim fun E z0 => z0.elim fun hr f => ⟨E, hr, (Fin.bind f).mono fun ds fx vs H1 s1 p1 => by
    by_cases hl : ds.length ≤ 1000
    · rw [if_pos hl] at fx
      refine ⟨by rw [p1.length]; exact Nat.le_of_lt (small1000 hl), fun p hp => fx _ _ (s1.trans (same_upd hp)) ?_⟩
      unfold Rp
      exact ⟨p, vs, rfl, (hr.same s1).fresh hp, upd_same, p1.mono (same_upd hp) fun _ z => z⟩
    · rw [if_neg hl] at fx; exact fx.elim⟩
theorem sn_lst (h : SA X G es t) : SN X G (.List es pos) (eLst t) :=
  (pe_lst h).imp fun σ H Q z0 => z0.elim fun E z0 => z0.elim fun hr f => ⟨E, hr, (Fin.bind f).mono fun ds fx vs H1 s1 p1 => by
    by_cases hl : ds.length ≤ 1000
    · rw [if_pos hl] at fx
      refine ⟨by rw [p1.length]; exact Nat.le_of_lt (small1000 hl), fun p hp => fx _ _ (s1.trans (same_upd hp)) ?_ ?_⟩
      · cases q : H p with
        | none => rfl
        | some o => rw [s1 _ _ q] at hp; cases hp
      exact ⟨vs, upd_same, (p1.fresh hp).mono (same_upd hp) fun _ z => z⟩
    · rw [if_neg hl] at fx; exact fx.elim⟩
theorem sn_dic : SN X G (.Dict [] [] pos) (kE (.dic [])) := pe_dnewT.imp fun σ H Q z0 => z0.elim fun E z0 => z0.elim fun hr f => fun p hp => f p _ (same_upd hp) hp ⟨[], upd_same, rfl⟩
end
end
end M

set_option Elab.async false
set_option linter.all false
set_option maxRecDepth 100000
namespace M
open PySem PySem.Spec PyProof.Rows L2

noncomputable def b2i (b : Bool) : Int := if b = true then 1 else 0
mutual
noncomputable def pl : Nat → D → Bool
  | _, .non => true
  | _, .bl _ => true
  | _, .int _ => true
  | _, .str _ => true
  | 0, .tup _ => false
  | 0, .lst _ => false
  | n + 1, .tup ds => pls n ds
  | n + 1, .lst ds => pls n ds
  | _, _ => false
noncomputable def pls : Nat → List D → Bool
  | _, [] => true
  | n, d :: ds => pl n d && pls n ds
end
mutual
noncomputable def eqb : D → D → Bool
  | .non, .non => true
  | .bl a, .bl b => a == b
  | .int a, .int b => a == b
  | .bl a, .int b => b2i a == b
  | .int a, .bl b => a == b2i b
  | .str a, .str b => a == b
  | .tup as, .tup bs => eqbs as bs
  | .lst as, .lst bs => eqbs as bs
  | _, _ => false
noncomputable def eqbs : List D → List D → Bool
  | [], [] => true
  | a :: as, b :: bs => eqb a b && eqbs as bs
  | _, _ => false
end
mutual
theorem eqb_refl : ∀ (n : Nat) (d : D), pl n d = true → eqb d d = true
  | _, .non, _ => by simp [eqb]
  | _, .bl _, _ => by simp [eqb]
  | _, .int _, _ => by simp [eqb]
  | _, .str _, _ => by simp [eqb]
  | 0, .tup _, h => by simp [pl] at h
  | 0, .lst _, h => by simp [pl] at h
  | n + 1, .tup ds, h => by rw [eqb]; rw [pl] at h; exact eqbs_refl n ds h
  | n + 1, .lst ds, h => by rw [eqb]; rw [pl] at h; exact eqbs_refl n ds h
  | _, .dic _, h => by simp [pl] at h
  | _, .scr _, h => by simp [pl] at h
theorem eqbs_refl : ∀ (n : Nat) (ds : List D), pls n ds = true → eqbs ds ds = true
  | _, [], _ => by simp [eqbs]
  | n, d :: ds, h => by
    rw [pls, Bool.and_eq_true] at h
    rw [eqbs, eqb_refl n d h.1, eqbs_refl n ds h.2]; rfl
end
section
variable {K : PySem.W.Frag} {H : Hp} {O : Addr → Prop}
noncomputable abbrev NoO : Addr → Prop := fun _ => False
theorem Rt.any {d : D} {v : V} {n : Nat} (h : Rt K H O d v) (hp : pl n d = true) : Rp K H NoO d v := by
  rcases h with h | ⟨a, rfl, h⟩
  · exact h.mono (Same.refl _) fun _ z => z.elim
  · refine (h.mono (Same.refl _) fun _ z => z.elim).rp (fun z => z) ?_
    cases d with
    | dic ds => simp [pl] at hp
    | _ => rfl
mutual
theorem Rp.inj : ∀ {n m : Nat} {d d' : D} {v : V}, pl n d = true → pl m d' = true → Rp K H O d v → Rp K H O d' v → d = d'
  | n, m, .non, d', v, h, h', r, r' => by
    unfold Rp at r; subst r
    cases d' <;> unfold Rp at r' <;> first | rfl | (cases r'; done) | (obtain ⟨_, _, e, _⟩ := r'; cases e) | (obtain ⟨_, e, _⟩ := r'; cases e)
  | n, m, .bl b, d', v, h, h', r, r' => by
    unfold Rp at r; subst r
    cases d' <;> unfold Rp at r' <;> first | (cases r'; rfl) | (cases r'; done) | (obtain ⟨_, _, e, _⟩ := r'; cases e) | (obtain ⟨_, e, _⟩ := r'; cases e)
  | n, m, .int b, d', v, h, h', r, r' => by
    unfold Rp at r; subst r
    cases d' <;> unfold Rp at r' <;> first | (cases r'; rfl) | (cases r'; done) | (obtain ⟨_, _, e, _⟩ := r'; cases e) | (obtain ⟨_, e, _⟩ := r'; cases e)
  | n, m, .str b, d', v, h, h', r, r' => by
    unfold Rp at r; subst r
    cases d' <;> unfold Rp at r' <;> first | (cases r'; rfl) | (cases r'; done) | (obtain ⟨_, _, e, _⟩ := r'; cases e) | (obtain ⟨_, e, _⟩ := r'; cases e)
  | n, m, .tup ds, d', v, h, h', r, r' => by
    unfold Rp at r
    obtain ⟨a, vs, rfl, _, q, rs⟩ := r
    cases n with
    | zero => simp [pl] at h
    | succ n =>
    cases d' with
    | tup ds' =>
      cases m with
      | zero => simp [pl] at h'
      | succ m =>
      unfold Rp at r'
      obtain ⟨b, ws, e, _, q', rs'⟩ := r'
      cases e
      rw [q] at q'; cases q'
      rw [pl] at h h'
      rw [Rps.inj h h' rs rs']
    | lst ds' => unfold Rp at r'; obtain ⟨b, ws, e, _, q', rs'⟩ := r'; cases e; rw [q] at q'; cases q'
    | dic _ => simp [pl] at h'
    | scr _ => simp [pl] at h'
    | _ => unfold Rp at r'; cases r'
  | n, m, .lst ds, d', v, h, h', r, r' => by
    unfold Rp at r
    obtain ⟨a, vs, rfl, _, q, rs⟩ := r
    cases n with
    | zero => simp [pl] at h
    | succ n =>
    cases d' with
    | lst ds' =>
      cases m with
      | zero => simp [pl] at h'
      | succ m =>
      unfold Rp at r'
      obtain ⟨b, ws, e, _, q', rs'⟩ := r'
      cases e
      rw [q] at q'; cases q'
      rw [pl] at h h'
      rw [Rps.inj h h' rs rs']
    | tup ds' => unfold Rp at r'; obtain ⟨b, ws, e, _, q', rs'⟩ := r'; cases e; rw [q] at q'; cases q'
    | dic _ => simp [pl] at h'
    | scr _ => simp [pl] at h'
    | _ => unfold Rp at r'; cases r'
  | n, m, .dic ds, d', v, h, h', r, r' => by simp [pl] at h
  | n, m, .scr ds, d', v, h, h', r, r' => by simp [pl] at h
theorem Rps.inj : ∀ {n m : Nat} {ds ds' : List D} {vs : List V}, pls n ds = true → pls m ds' = true → Rps K H O ds vs → Rps K H O ds' vs → ds = ds'
  | n, m, [], ds', vs, h, h', r, r' => by
    unfold Rps at r; subst r
    cases ds' with
    | nil => rfl
    | cons _ _ => unfold Rps at r'; obtain ⟨_, _, e, _⟩ := r'; cases e
  | n, m, d :: ds, ds', vs, h, h', r, r' => by
    unfold Rps at r
    obtain ⟨v, rr, rfl, p, q⟩ := r
    cases ds' with
    | nil => unfold Rps at r'; cases r'
    | cons d' ds' =>
      unfold Rps at r'
      obtain ⟨v', rr', e, p', q'⟩ := r'
      cases e
      rw [pls, Bool.and_eq_true] at h h'
      rw [Rp.inj h.1 h'.1 p p', Rps.inj h.2 h'.2 q q']
end
end

theorem eqbs_len : ∀ {as bs : List D}, as.length ≠ bs.length → eqbs as bs = false
  | [], [], h => absurd rfl h
  | [], _ :: _, _ => by simp [eqbs]
  | _ :: _, [], _ => by simp [eqbs]
  | a :: as, b :: bs, h => by
    rw [eqbs, eqbs_len (fun z => h (by simp [z]))]; simp
theorem eqbs_range : ∀ {as bs : List D}, as.length = bs.length → eqbs as bs = (List.range as.length).all fun i => eqb (as.getD i .non) (bs.getD i .non)
  | [], [], _ => by simp [eqbs]
  | a :: as, b :: bs, h => by
    rw [eqbs, eqbs_range (by simpa using h)]
    simp only [List.length_cons, List.range_succ_eq_map, List.all_cons, List.all_map]
    rfl
  | [], _ :: _, h => by simp at h
  | _ :: _, [], h => by simp at h

section
variable {X : Cx} {pins : List (Addr × Obj)} {σ : St} {H : Hp} {s : Shared} {O : Addr → Prop}
theorem rps_at {ds : List D} {vs : List V} {its : List Value} (r : Rps X.K H O ds vs) (q : Vals vs its) (j : Nat) (h : j < its.length) : ∃ v, Rp X.K H O (ds.getD j .non) v ∧ RelV v its[j] := by
  have h1 : j < vs.length := by rw [q.length]; exact h
  have h2 : j < ds.length := by rw [← r.length]; exact h1
  obtain ⟨v, e, p⟩ := r.get (i := j) (d := ds[j]) (by simp [h2])
  obtain ⟨u, e2, p2⟩ := q.get e
  refine ⟨v, ?_, ?_⟩
  · simpa [List.getD, h2] using p
  · rw [List.getElem?_eq_getElem h] at e2; cases e2; exact p2
theorem pls_getD : ∀ {n : Nat} {ds : List D}, pls n ds = true → ∀ j, pl n (ds.getD j .non) = true
  | n, [], _, j => by simp [pl]
  | n, d :: ds, h, 0 => by rw [pls, Bool.and_eq_true] at h; exact h.1
  | n, d :: ds, h, j + 1 => by rw [pls, Bool.and_eq_true] at h; exact pls_getD h.2 j
noncomputable def scD : D → Bool
  | .non => true | .bl _ => true | .int _ => true | .str _ => true
  | _ => false
theorem eq_scal {m : Nat} {A : Around} {dx dy : D} {v w : V} {u u' : Value} (I : Inv X pins σ H s) (hu : A.units < cLine) (px : scD dx = true) (py : pl m dy = true) (rx : Rp X.K H O dx v) (ry : Rp X.K H O dy w) (qx : RelV v u) (qy : RelV w u') : SeqAt.EqAt A s u u' (eqb dx dy) := by
  have two : ∀ {b w}, Rp X.K H O b w → (∃ es, b = .tup es) ∨ (∃ es, b = .lst es) → ∀ {z}, RelV w z → ∃ a its, z = .ref a ∧ (((∃ es, b = .tup es) ∧ s.heap.IsTuple a its) ∨ ((∃ es, b = .lst es) ∧ s.heap.IsList a its)) := fun {b w} r h z q => by
    rcases h with ⟨es, rfl⟩ | ⟨es, rfl⟩
    · unfold Rp at r
      obtain ⟨a, vs, rfl, _, q', rs⟩ := r
      cases q
      obtain ⟨its, vr, ht, hz⟩ := I.tuple (SqT.of q')
      exact ⟨a, _, rfl, .inl ⟨⟨es, rfl⟩, ht⟩⟩
    · unfold Rp at r
      obtain ⟨a, vs, rfl, _, q', rs⟩ := r
      cases q
      obtain ⟨its, vr, ht, hz⟩ := I.list (SqL.of q')
      exact ⟨a, _, rfl, .inr ⟨⟨es, rfl⟩, ht.isList⟩⟩
  cases dx with
  | tup _ => cases px
  | lst _ => cases px
  | dic _ => cases px
  | scr _ => cases px
  | non =>
    unfold Rp at rx; subst rx; cases qx
    cases dy with
    | non => unfold Rp at ry; subst ry; cases qy; exact SeqAt.EqAt.same _
    | bl _ => unfold Rp at ry; subst ry; cases qy; exact SeqAt.EqAt.none_bool _
    | int _ => unfold Rp at ry; subst ry; obtain ⟨t, rfl⟩ := qy; exact SeqAt.EqAt.none_int _ _
    | str _ => unfold Rp at ry; subst ry; obtain ⟨t, rfl⟩ := qy; exact SeqAt.EqAt.none_str _ _
    | dic _ => simp [pl] at py
    | scr _ => simp [pl] at py
    | tup es =>
      obtain ⟨a, its, rfl, ⟨_, ht⟩ | ⟨⟨_, e⟩, ht⟩⟩ := two ry (.inl ⟨_, rfl⟩) qy
      · exact SeqAt.EqAt.none_tuple ht hu
      · cases e
    | lst es =>
      obtain ⟨a, its, rfl, ⟨⟨_, e⟩, ht⟩ | ⟨_, ht⟩⟩ := two ry (.inr ⟨_, rfl⟩) qy
      · cases e
      · exact SeqAt.EqAt.none_list ht hu
  | bl _ =>
    unfold Rp at rx; subst rx; cases qx
    cases dy with
    | non => unfold Rp at ry; subst ry; cases qy; exact SeqAt.EqAt.bool_none _
    | bl _ => unfold Rp at ry; subst ry; cases qy; exact SeqAt.EqAt.bool_bool _ _
    | int _ => unfold Rp at ry; subst ry; obtain ⟨t, rfl⟩ := qy; exact SeqAt.EqAt.bool_int _ _ _
    | str _ => unfold Rp at ry; subst ry; obtain ⟨t, rfl⟩ := qy; exact SeqAt.EqAt.bool_str _ _ _
    | dic _ => simp [pl] at py
    | scr _ => simp [pl] at py
    | tup es =>
      obtain ⟨a, its, rfl, ⟨_, ht⟩ | ⟨⟨_, e⟩, ht⟩⟩ := two ry (.inl ⟨_, rfl⟩) qy
      · exact SeqAt.EqAt.bool_tuple _ ht hu
      · cases e
    | lst es =>
      obtain ⟨a, its, rfl, ⟨⟨_, e⟩, ht⟩ | ⟨_, ht⟩⟩ := two ry (.inr ⟨_, rfl⟩) qy
      · cases e
      · exact SeqAt.EqAt.bool_list _ ht hu
  | int _ =>
    unfold Rp at rx; subst rx; obtain ⟨t0, rfl⟩ := qx
    cases dy with
    | non => unfold Rp at ry; subst ry; cases qy; exact SeqAt.EqAt.int_none _ _
    | bl _ => unfold Rp at ry; subst ry; cases qy; exact SeqAt.EqAt.int_bool _ _ _
    | int _ => unfold Rp at ry; subst ry; obtain ⟨t, rfl⟩ := qy; exact SeqAt.EqAt.int_int _ _ _ _
    | str _ => unfold Rp at ry; subst ry; obtain ⟨t, rfl⟩ := qy; exact SeqAt.EqAt.int_str _ _ _ _
    | dic _ => simp [pl] at py
    | scr _ => simp [pl] at py
    | tup es =>
      obtain ⟨a, its, rfl, ⟨_, ht⟩ | ⟨⟨_, e⟩, ht⟩⟩ := two ry (.inl ⟨_, rfl⟩) qy
      · exact SeqAt.EqAt.int_tuple _ _ ht hu
      · cases e
    | lst es =>
      obtain ⟨a, its, rfl, ⟨⟨_, e⟩, ht⟩ | ⟨_, ht⟩⟩ := two ry (.inr ⟨_, rfl⟩) qy
      · cases e
      · exact SeqAt.EqAt.int_list _ _ ht hu
  | str _ =>
    unfold Rp at rx; subst rx; obtain ⟨t0, rfl⟩ := qx
    cases dy with
    | non => unfold Rp at ry; subst ry; cases qy; exact SeqAt.EqAt.str_none _ _
    | bl _ => unfold Rp at ry; subst ry; cases qy; exact SeqAt.EqAt.str_bool _ _ _
    | int _ => unfold Rp at ry; subst ry; obtain ⟨t, rfl⟩ := qy; exact SeqAt.EqAt.str_int _ _ _ _
    | str _ => unfold Rp at ry; subst ry; obtain ⟨t, rfl⟩ := qy; exact SeqAt.EqAt.str_str _ _ _ _
    | dic _ => simp [pl] at py
    | scr _ => simp [pl] at py
    | tup es =>
      obtain ⟨a, its, rfl, ⟨_, ht⟩ | ⟨⟨_, e⟩, ht⟩⟩ := two ry (.inl ⟨_, rfl⟩) qy
      · exact SeqAt.EqAt.str_tuple _ _ ht hu
      · cases e
    | lst es =>
      obtain ⟨a, its, rfl, ⟨⟨_, e⟩, ht⟩ | ⟨_, ht⟩⟩ := two ry (.inr ⟨_, rfl⟩) qy
      · cases e
      · exact SeqAt.EqAt.str_list _ _ ht hu
theorem eq_at : ∀ (n m : Nat) (A : Around) (dx dy : D) (v w : V) (u u' : Value), Inv X pins σ H s → A.units + n < cLine → pl n dx = true → pl m dy = true → Rp X.K H O dx v → Rp X.K H O dy w → RelV v u → RelV w u' → SeqAt.EqAt A s u u' (eqb dx dy) := by
  intro n
  induction n with
  | zero =>
    intro m A dx dy v w u u' I hu px py rx ry qx qy
    cases dx with
    | tup _ => simp [pl] at px
    | lst _ => simp [pl] at px
    | dic _ => simp [pl] at px
    | scr _ => simp [pl] at px
    | non => exact eq_scal I (by omega) rfl py rx ry qx qy
    | bl _ => exact eq_scal I (by omega) rfl py rx ry qx qy
    | int _ => exact eq_scal I (by omega) rfl py rx ry qx qy
    | str _ => exact eq_scal I (by omega) rfl py rx ry qx qy
  | succ n ih =>
    intro m A dx dy v w u u' I hu px py rx ry qx qy
    cases dx with
    | dic _ => simp [pl] at px
    | scr _ => simp [pl] at px
    | non => exact eq_scal I (by omega) rfl py rx ry qx qy
    | bl _ => exact eq_scal I (by omega) rfl py rx ry qx qy
    | int _ => exact eq_scal I (by omega) rfl py rx ry qx qy
    | str _ => exact eq_scal I (by omega) rfl py rx ry qx qy
    | tup ds =>
      have rx' := rx
      unfold Rp at rx
      obtain ⟨a, vs, rfl, _, q, rs⟩ := rx
      cases qx
      obtain ⟨its, vr, ht, hz⟩ := I.tuple (SqT.of q)
      have ht : s.heap.IsTuple a its.toArray := ht
      cases dy with
      | non => unfold Rp at ry; subst ry; cases qy; exact SeqAt.EqAt.tuple_none ht (by omega)
      | bl _ => unfold Rp at ry; subst ry; cases qy; exact SeqAt.EqAt.tuple_bool _ ht (by omega)
      | int _ => unfold Rp at ry; subst ry; obtain ⟨t, rfl⟩ := qy; exact SeqAt.EqAt.tuple_int _ _ ht (by omega)
      | str _ => unfold Rp at ry; subst ry; obtain ⟨t, rfl⟩ := qy; exact SeqAt.EqAt.tuple_str _ _ ht (by omega)
      | dic _ => simp [pl] at py
      | scr _ => simp [pl] at py
      | lst es =>
        unfold Rp at ry
        obtain ⟨b, ws, rfl, _, q', rs'⟩ := ry
        cases qy
        obtain ⟨its', vr', ht', hz'⟩ := I.list (SqL.of q')
        exact SeqAt.EqAt.tuple_list ht ht'.isList (by omega)
      | tup es =>
        cases m with
        | zero => simp [pl] at py
        | succ m =>
        have ry' := ry
        unfold Rp at ry
        obtain ⟨b, ws, rfl, _, q', rs'⟩ := ry
        cases qy
        by_cases hab : a = b
        · subst hab
          have e := Rp.inj px py rx' ry'
          rw [← e, eqb_refl _ _ px]
          exact SeqAt.EqAt.same _
        · obtain ⟨its', vr', ht', hz'⟩ := I.tuple (SqT.of q')
          have ht' : s.heap.IsTuple b its'.toArray := ht'
          rw [pl] at px py
          have l1 : its.length = ds.length := by rw [← vr.length, rs.length]
          have l2 : its'.length = es.length := by rw [← vr'.length, rs'.length]
          refine SeqAt.EqAt.of_refs hab ?_
          have main := SeqAt.RcAt.tuples (A := A) (e := fun j => eqb (ds.getD j .non) (es.getD j .non)) ht ht' (by omega) (fun j h1 h2 => by
            simp only [List.size_toArray] at h1 h2
            obtain ⟨v1, p1, p2⟩ := rps_at (X := X) rs vr j h1
            obtain ⟨v2, p3, p4⟩ := rps_at (X := X) rs' vr' j h2
            have := ih m A.in1 (ds.getD j .non) (es.getD j .non) v1 v2 _ _ I (by rw [units_in1]; omega) (pls_getD px j) (pls_getD py j) p1 p3 p2 p4
            simpa using this)
          rw [eqb]
          by_cases hl : ds.length = es.length
          · rw [eqbs_range hl]
            simp only [List.size_toArray, l1, l2, hl, Nat.min_self, beq_self_eq_true, Bool.and_true] at main
            rw [hl]; exact main
          · rw [eqbs_len hl]
            simp only [List.size_toArray, l1, l2] at main
            rw [beq_eq_false_iff_ne.mpr hl, Bool.and_false] at main
            exact main
    | lst ds =>
      have rx' := rx
      unfold Rp at rx
      obtain ⟨a, vs, rfl, _, q, rs⟩ := rx
      cases qx
      obtain ⟨its, vr, ht, hz⟩ := I.list (SqL.of q)
      have ht := ht.isList
      cases dy with
      | non => unfold Rp at ry; subst ry; cases qy; exact SeqAt.EqAt.list_none ht (by omega)
      | bl _ => unfold Rp at ry; subst ry; cases qy; exact SeqAt.EqAt.list_bool _ ht (by omega)
      | int _ => unfold Rp at ry; subst ry; obtain ⟨t, rfl⟩ := qy; exact SeqAt.EqAt.list_int _ _ ht (by omega)
      | str _ => unfold Rp at ry; subst ry; obtain ⟨t, rfl⟩ := qy; exact SeqAt.EqAt.list_str _ _ ht (by omega)
      | dic _ => simp [pl] at py
      | scr _ => simp [pl] at py
      | tup es =>
        unfold Rp at ry
        obtain ⟨b, ws, rfl, _, q', rs'⟩ := ry
        cases qy
        obtain ⟨its', vr', ht', hz'⟩ := I.tuple (SqT.of q')
        exact SeqAt.EqAt.list_tuple ht ht' (by omega)
      | lst es =>
        cases m with
        | zero => simp [pl] at py
        | succ m =>
        have ry' := ry
        unfold Rp at ry
        obtain ⟨b, ws, rfl, _, q', rs'⟩ := ry
        cases qy
        by_cases hab : a = b
        · subst hab
          have e := Rp.inj px py rx' ry'
          rw [← e, eqb_refl _ _ px]
          exact SeqAt.EqAt.same _
        · obtain ⟨its', vr', ht', hz'⟩ := I.list (SqL.of q')
          have ht' := ht'.isList
          rw [pl] at px py
          have l1 : its.length = ds.length := by rw [← vr.length, rs.length]
          have l2 : its'.length = es.length := by rw [← vr'.length, rs'.length]
          refine SeqAt.EqAt.of_refs hab ?_
          rw [eqb]
          by_cases hl : ds.length = es.length
          · have main := SeqAt.RcAt.lists (A := A) (e := fun j => eqb (ds.getD j .non) (es.getD j .non)) ht ht' (by simp [l1, l2, hl]) (by omega) (fun j h1 h2 => by
              simp only [List.size_toArray] at h1 h2
              obtain ⟨v1, p1, p2⟩ := rps_at (X := X) rs vr j h1
              obtain ⟨v2, p3, p4⟩ := rps_at (X := X) rs' vr' j h2
              have := ih m A.in1 (ds.getD j .non) (es.getD j .non) v1 v2 _ _ I (by rw [units_in1]; omega) (pls_getD px j) (pls_getD py j) p1 p3 p2 p4
              simpa using this)
            rw [eqbs_range hl]
            simp only [List.size_toArray, l1] at main
            exact main
          · rw [eqbs_len hl]
            exact SeqAt.RcAt.lists_lengths ht ht' (by simp only [List.size_toArray, l1, l2]; exact bne_iff_ne.mpr hl) (by omega)
end
end M

set_option Elab.async false
set_option linter.all false
set_option maxRecDepth 100000
namespace M
open PySem PySem.Spec PyProof.Rows L2
section
variable {X : Cx} {pins : List (Addr × Obj)} {σ : St} {H : Hp} {s : Shared} {O : Addr → Prop}
theorem rc_at (n m : Nat) (A : Around) (dx dy : D) (v w : V) (u u' : Value) (I : Inv X pins σ H s) (hu : A.units + n < cLine) (px : pl n dx = true) (py : pl m dy = true) (rx : Rp X.K H O dx v) (ry : Rp X.K H O dy w) (qx : RelV v u) (qy : RelV w u') : SeqAt.RcAt A s u u' ((eqb dx dy)) := by
  have hu0 : A.units < cLine := by omega
  cases dx with
  | dic _ => simp [pl] at px
  | scr _ => simp [pl] at px
  | non =>
    unfold Rp at rx; subst rx; cases qx
    cases dy with
    | dic _ => simp [pl] at py
    | scr _ => simp [pl] at py
    | non =>
      unfold Rp at ry; subst ry; cases qy
      exact SeqAt.RcAt.none_none
    | bl dy =>
      unfold Rp at ry; subst ry; cases qy
      exact SeqAt.RcAt.none_bool _
    | int dy =>
      unfold Rp at ry; subst ry; obtain ⟨t2, rfl⟩ := qy
      exact SeqAt.RcAt.none_int _ _
    | str dy =>
      unfold Rp at ry; subst ry; obtain ⟨t2, rfl⟩ := qy
      exact SeqAt.RcAt.none_str _ _
    | tup dy =>
      unfold Rp at ry; obtain ⟨a2, vs2, rfl, _, h2, rs2⟩ := ry; cases qy; obtain ⟨its2, vr2, ht2, hz2⟩ := I.tuple (SqT.of h2)
      exact SeqAt.RcAt.none_tuple ht2 hu0
    | lst dy =>
      unfold Rp at ry; obtain ⟨a2, vs2, rfl, _, h2, rs2⟩ := ry; cases qy; obtain ⟨its2, vr2, ht2, hz2⟩ := I.list (SqL.of h2); have ht2 := ht2.isList
      exact SeqAt.RcAt.none_list ht2 hu0
  | bl dx =>
    unfold Rp at rx; subst rx; cases qx
    cases dy with
    | dic _ => simp [pl] at py
    | scr _ => simp [pl] at py
    | non =>
      unfold Rp at ry; subst ry; cases qy
      exact SeqAt.RcAt.bool_none _
    | bl dy =>
      unfold Rp at ry; subst ry; cases qy
      exact SeqAt.RcAt.bool_bool _ _
    | int dy =>
      unfold Rp at ry; subst ry; obtain ⟨t2, rfl⟩ := qy
      exact SeqAt.RcAt.bool_int _ _ _
    | str dy =>
      unfold Rp at ry; subst ry; obtain ⟨t2, rfl⟩ := qy
      exact SeqAt.RcAt.bool_str _ _ _
    | tup dy =>
      unfold Rp at ry; obtain ⟨a2, vs2, rfl, _, h2, rs2⟩ := ry; cases qy; obtain ⟨its2, vr2, ht2, hz2⟩ := I.tuple (SqT.of h2)
      exact SeqAt.RcAt.bool_tuple _ ht2 hu0
    | lst dy =>
      unfold Rp at ry; obtain ⟨a2, vs2, rfl, _, h2, rs2⟩ := ry; cases qy; obtain ⟨its2, vr2, ht2, hz2⟩ := I.list (SqL.of h2); have ht2 := ht2.isList
      exact SeqAt.RcAt.bool_list _ ht2 hu0
  | int dx =>
    unfold Rp at rx; subst rx; obtain ⟨t1, rfl⟩ := qx
    cases dy with
    | dic _ => simp [pl] at py
    | scr _ => simp [pl] at py
    | non =>
      unfold Rp at ry; subst ry; cases qy
      exact SeqAt.RcAt.int_none _ _
    | bl dy =>
      unfold Rp at ry; subst ry; cases qy
      exact SeqAt.RcAt.int_bool _ _ _
    | int dy =>
      unfold Rp at ry; subst ry; obtain ⟨t2, rfl⟩ := qy
      exact SeqAt.RcAt.int_int _ _ _ _
    | str dy =>
      unfold Rp at ry; subst ry; obtain ⟨t2, rfl⟩ := qy
      exact SeqAt.RcAt.int_str _ _ _ _
    | tup dy =>
      unfold Rp at ry; obtain ⟨a2, vs2, rfl, _, h2, rs2⟩ := ry; cases qy; obtain ⟨its2, vr2, ht2, hz2⟩ := I.tuple (SqT.of h2)
      exact SeqAt.RcAt.int_tuple _ _ ht2 hu0
    | lst dy =>
      unfold Rp at ry; obtain ⟨a2, vs2, rfl, _, h2, rs2⟩ := ry; cases qy; obtain ⟨its2, vr2, ht2, hz2⟩ := I.list (SqL.of h2); have ht2 := ht2.isList
      exact SeqAt.RcAt.int_list _ _ ht2 hu0
  | str dx =>
    unfold Rp at rx; subst rx; obtain ⟨t1, rfl⟩ := qx
    cases dy with
    | dic _ => simp [pl] at py
    | scr _ => simp [pl] at py
    | non =>
      unfold Rp at ry; subst ry; cases qy
      exact SeqAt.RcAt.str_none _ _
    | bl dy =>
      unfold Rp at ry; subst ry; cases qy
      exact SeqAt.RcAt.str_bool _ _ _
    | int dy =>
      unfold Rp at ry; subst ry; obtain ⟨t2, rfl⟩ := qy
      exact SeqAt.RcAt.str_int _ _ _ _
    | str dy =>
      unfold Rp at ry; subst ry; obtain ⟨t2, rfl⟩ := qy
      exact SeqAt.RcAt.str_str _ _ _ _
    | tup dy =>
      unfold Rp at ry; obtain ⟨a2, vs2, rfl, _, h2, rs2⟩ := ry; cases qy; obtain ⟨its2, vr2, ht2, hz2⟩ := I.tuple (SqT.of h2)
      exact SeqAt.RcAt.str_tuple _ _ ht2 hu0
    | lst dy =>
      unfold Rp at ry; obtain ⟨a2, vs2, rfl, _, h2, rs2⟩ := ry; cases qy; obtain ⟨its2, vr2, ht2, hz2⟩ := I.list (SqL.of h2); have ht2 := ht2.isList
      exact SeqAt.RcAt.str_list _ _ ht2 hu0
  | tup dx =>
    cases n with
    | zero => simp [pl] at px
    | succ n =>
    unfold Rp at rx; obtain ⟨a1, vs1, rfl, _, h1, rs1⟩ := rx; cases qx; obtain ⟨its1, vr1, ht1, hz1⟩ := I.tuple (SqT.of h1)
    cases dy with
    | dic _ => simp [pl] at py
    | scr _ => simp [pl] at py
    | non =>
      unfold Rp at ry; subst ry; cases qy
      exact SeqAt.RcAt.tuple_none ht1 hu0
    | bl dy =>
      unfold Rp at ry; subst ry; cases qy
      exact SeqAt.RcAt.tuple_bool _ ht1 hu0
    | int dy =>
      unfold Rp at ry; subst ry; obtain ⟨t2, rfl⟩ := qy
      exact SeqAt.RcAt.tuple_int _ _ ht1 hu0
    | str dy =>
      unfold Rp at ry; subst ry; obtain ⟨t2, rfl⟩ := qy
      exact SeqAt.RcAt.tuple_str _ _ ht1 hu0
    | tup dy =>
      cases m with
      | zero => simp [pl] at py
      | succ m =>
      unfold Rp at ry; obtain ⟨a2, vs2, rfl, _, h2, rs2⟩ := ry; cases qy; obtain ⟨its2, vr2, ht2, hz2⟩ := I.tuple (SqT.of h2)
      rw [pl] at px py
      have l1 : its1.length = dx.length := by rw [← vr1.length, rs1.length]
      have l2 : its2.length = dy.length := by rw [← vr2.length, rs2.length]
      have el : ∀ j (h1 : j < its1.toArray.size) (h2 : j < its2.toArray.size), SeqAt.EqAt A.in1 s its1.toArray[j] its2.toArray[j] (eqb (dx.getD j .non) (dy.getD j .non)) := fun j h1 h2 => by
        simp only [List.size_toArray] at h1 h2
        obtain ⟨v1, p1, p2⟩ := rps_at (X := X) rs1 vr1 j h1
        obtain ⟨v2, p3, p4⟩ := rps_at (X := X) rs2 vr2 j h2
        have := eq_at n m A.in1 (dx.getD j .non) (dy.getD j .non) v1 v2 _ _ I (by rw [units_in1]; omega) (pls_getD px j) (pls_getD py j) p1 p3 p2 p4
        simpa using this
      rw [eqb]
      by_cases hl : dx.length = dy.length
      · have main := SeqAt.RcAt.tuples (A := A) (e := fun j => eqb (dx.getD j .non) (dy.getD j .non)) ht1 ht2 hu0 el
        simp only [List.size_toArray, l1, l2, hl, Nat.min_self, beq_self_eq_true, Bool.and_true] at main
        rw [eqbs_range hl, hl]; exact main
      · have main := SeqAt.RcAt.tuples (A := A) (e := fun j => eqb (dx.getD j .non) (dy.getD j .non)) ht1 ht2 hu0 el
        rw [eqbs_len hl]
        simp only [List.size_toArray, l1, l2] at main
        rw [beq_eq_false_iff_ne.mpr hl, Bool.and_false] at main
        exact main
    | lst dy =>
      unfold Rp at ry; obtain ⟨a2, vs2, rfl, _, h2, rs2⟩ := ry; cases qy; obtain ⟨its2, vr2, ht2, hz2⟩ := I.list (SqL.of h2); have ht2 := ht2.isList
      exact SeqAt.RcAt.tuple_list ht1 ht2 hu0
  | lst dx =>
    cases n with
    | zero => simp [pl] at px
    | succ n =>
    unfold Rp at rx; obtain ⟨a1, vs1, rfl, _, h1, rs1⟩ := rx; cases qx; obtain ⟨its1, vr1, ht1, hz1⟩ := I.list (SqL.of h1); have ht1 := ht1.isList
    cases dy with
    | dic _ => simp [pl] at py
    | scr _ => simp [pl] at py
    | non =>
      unfold Rp at ry; subst ry; cases qy
      exact SeqAt.RcAt.list_none ht1 hu0
    | bl dy =>
      unfold Rp at ry; subst ry; cases qy
      exact SeqAt.RcAt.list_bool _ ht1 hu0
    | int dy =>
      unfold Rp at ry; subst ry; obtain ⟨t2, rfl⟩ := qy
      exact SeqAt.RcAt.list_int _ _ ht1 hu0
    | str dy =>
      unfold Rp at ry; subst ry; obtain ⟨t2, rfl⟩ := qy
      exact SeqAt.RcAt.list_str _ _ ht1 hu0
    | tup dy =>
      unfold Rp at ry; obtain ⟨a2, vs2, rfl, _, h2, rs2⟩ := ry; cases qy; obtain ⟨its2, vr2, ht2, hz2⟩ := I.tuple (SqT.of h2)
      exact SeqAt.RcAt.list_tuple ht1 ht2 hu0
    | lst dy =>
      cases m with
      | zero => simp [pl] at py
      | succ m =>
      unfold Rp at ry; obtain ⟨a2, vs2, rfl, _, h2, rs2⟩ := ry; cases qy; obtain ⟨its2, vr2, ht2, hz2⟩ := I.list (SqL.of h2); have ht2 := ht2.isList
      rw [pl] at px py
      have l1 : its1.length = dx.length := by rw [← vr1.length, rs1.length]
      have l2 : its2.length = dy.length := by rw [← vr2.length, rs2.length]
      have el : ∀ j (h1 : j < its1.toArray.size) (h2 : j < its2.toArray.size), SeqAt.EqAt A.in1 s its1.toArray[j] its2.toArray[j] (eqb (dx.getD j .non) (dy.getD j .non)) := fun j h1 h2 => by
        simp only [List.size_toArray] at h1 h2
        obtain ⟨v1, p1, p2⟩ := rps_at (X := X) rs1 vr1 j h1
        obtain ⟨v2, p3, p4⟩ := rps_at (X := X) rs2 vr2 j h2
        have := eq_at n m A.in1 (dx.getD j .non) (dy.getD j .non) v1 v2 _ _ I (by rw [units_in1]; omega) (pls_getD px j) (pls_getD py j) p1 p3 p2 p4
        simpa using this
      rw [eqb]
      by_cases hl : dx.length = dy.length
      · have main := SeqAt.RcAt.lists (A := A) (e := fun j => eqb (dx.getD j .non) (dy.getD j .non)) ht1 ht2 (by simp [l1, l2, hl]) hu0 el
        simp only [List.size_toArray, l1] at main
        rw [eqbs_range hl]; exact main
      · rw [eqbs_len hl]
        exact SeqAt.RcAt.lists_lengths ht1 ht2 (by simp only [List.size_toArray, l1, l2]; exact bne_iff_ne.mpr hl) hu0
theorem rcne_at (n m : Nat) (A : Around) (dx dy : D) (v w : V) (u u' : Value) (I : Inv X pins σ H s) (hu : A.units + n < cLine) (px : pl n dx = true) (py : pl m dy = true) (rx : Rp X.K H O dx v) (ry : Rp X.K H O dy w) (qx : RelV v u) (qy : RelV w u') : SeqAt.RcNeAt A s u u' (!(eqb dx dy)) := by
  have hu0 : A.units < cLine := by omega
  cases dx with
  | dic _ => simp [pl] at px
  | scr _ => simp [pl] at px
  | non =>
    unfold Rp at rx; subst rx; cases qx
    cases dy with
    | dic _ => simp [pl] at py
    | scr _ => simp [pl] at py
    | non =>
      unfold Rp at ry; subst ry; cases qy
      exact SeqAt.RcNeAt.none_none
    | bl dy =>
      unfold Rp at ry; subst ry; cases qy
      exact SeqAt.RcNeAt.none_bool _
    | int dy =>
      unfold Rp at ry; subst ry; obtain ⟨t2, rfl⟩ := qy
      exact SeqAt.RcNeAt.none_int _ _
    | str dy =>
      unfold Rp at ry; subst ry; obtain ⟨t2, rfl⟩ := qy
      exact SeqAt.RcNeAt.none_str _ _
    | tup dy =>
      unfold Rp at ry; obtain ⟨a2, vs2, rfl, _, h2, rs2⟩ := ry; cases qy; obtain ⟨its2, vr2, ht2, hz2⟩ := I.tuple (SqT.of h2)
      exact SeqAt.RcNeAt.none_tuple ht2 hu0
    | lst dy =>
      unfold Rp at ry; obtain ⟨a2, vs2, rfl, _, h2, rs2⟩ := ry; cases qy; obtain ⟨its2, vr2, ht2, hz2⟩ := I.list (SqL.of h2); have ht2 := ht2.isList
      exact SeqAt.RcNeAt.none_list ht2 hu0
  | bl dx =>
    unfold Rp at rx; subst rx; cases qx
    cases dy with
    | dic _ => simp [pl] at py
    | scr _ => simp [pl] at py
    | non =>
      unfold Rp at ry; subst ry; cases qy
      exact SeqAt.RcNeAt.bool_none _
    | bl dy =>
      unfold Rp at ry; subst ry; cases qy
      exact SeqAt.RcNeAt.bool_bool _ _
    | int dy =>
      unfold Rp at ry; subst ry; obtain ⟨t2, rfl⟩ := qy
      exact SeqAt.RcNeAt.bool_int _ _ _
    | str dy =>
      unfold Rp at ry; subst ry; obtain ⟨t2, rfl⟩ := qy
      exact SeqAt.RcNeAt.bool_str _ _ _
    | tup dy =>
      unfold Rp at ry; obtain ⟨a2, vs2, rfl, _, h2, rs2⟩ := ry; cases qy; obtain ⟨its2, vr2, ht2, hz2⟩ := I.tuple (SqT.of h2)
      exact SeqAt.RcNeAt.bool_tuple _ ht2 hu0
    | lst dy =>
      unfold Rp at ry; obtain ⟨a2, vs2, rfl, _, h2, rs2⟩ := ry; cases qy; obtain ⟨its2, vr2, ht2, hz2⟩ := I.list (SqL.of h2); have ht2 := ht2.isList
      exact SeqAt.RcNeAt.bool_list _ ht2 hu0
  | int dx =>
    unfold Rp at rx; subst rx; obtain ⟨t1, rfl⟩ := qx
    cases dy with
    | dic _ => simp [pl] at py
    | scr _ => simp [pl] at py
    | non =>
      unfold Rp at ry; subst ry; cases qy
      exact SeqAt.RcNeAt.int_none _ _
    | bl dy =>
      unfold Rp at ry; subst ry; cases qy
      exact SeqAt.RcNeAt.int_bool _ _ _
    | int dy =>
      unfold Rp at ry; subst ry; obtain ⟨t2, rfl⟩ := qy
      exact SeqAt.RcNeAt.int_int _ _ _ _
    | str dy =>
      unfold Rp at ry; subst ry; obtain ⟨t2, rfl⟩ := qy
      exact SeqAt.RcNeAt.int_str _ _ _ _
    | tup dy =>
      unfold Rp at ry; obtain ⟨a2, vs2, rfl, _, h2, rs2⟩ := ry; cases qy; obtain ⟨its2, vr2, ht2, hz2⟩ := I.tuple (SqT.of h2)
      exact SeqAt.RcNeAt.int_tuple _ _ ht2 hu0
    | lst dy =>
      unfold Rp at ry; obtain ⟨a2, vs2, rfl, _, h2, rs2⟩ := ry; cases qy; obtain ⟨its2, vr2, ht2, hz2⟩ := I.list (SqL.of h2); have ht2 := ht2.isList
      exact SeqAt.RcNeAt.int_list _ _ ht2 hu0
  | str dx =>
    unfold Rp at rx; subst rx; obtain ⟨t1, rfl⟩ := qx
    cases dy with
    | dic _ => simp [pl] at py
    | scr _ => simp [pl] at py
    | non =>
      unfold Rp at ry; subst ry; cases qy
      exact SeqAt.RcNeAt.str_none _ _
    | bl dy =>
      unfold Rp at ry; subst ry; cases qy
      exact SeqAt.RcNeAt.str_bool _ _ _
    | int dy =>
      unfold Rp at ry; subst ry; obtain ⟨t2, rfl⟩ := qy
      exact SeqAt.RcNeAt.str_int _ _ _ _
    | str dy =>
      unfold Rp at ry; subst ry; obtain ⟨t2, rfl⟩ := qy
      exact SeqAt.RcNeAt.str_str _ _ _ _
    | tup dy =>
      unfold Rp at ry; obtain ⟨a2, vs2, rfl, _, h2, rs2⟩ := ry; cases qy; obtain ⟨its2, vr2, ht2, hz2⟩ := I.tuple (SqT.of h2)
      exact SeqAt.RcNeAt.str_tuple _ _ ht2 hu0
    | lst dy =>
      unfold Rp at ry; obtain ⟨a2, vs2, rfl, _, h2, rs2⟩ := ry; cases qy; obtain ⟨its2, vr2, ht2, hz2⟩ := I.list (SqL.of h2); have ht2 := ht2.isList
      exact SeqAt.RcNeAt.str_list _ _ ht2 hu0
  | tup dx =>
    cases n with
    | zero => simp [pl] at px
    | succ n =>
    unfold Rp at rx; obtain ⟨a1, vs1, rfl, _, h1, rs1⟩ := rx; cases qx; obtain ⟨its1, vr1, ht1, hz1⟩ := I.tuple (SqT.of h1)
    cases dy with
    | dic _ => simp [pl] at py
    | scr _ => simp [pl] at py
    | non =>
      unfold Rp at ry; subst ry; cases qy
      exact SeqAt.RcNeAt.tuple_none ht1 hu0
    | bl dy =>
      unfold Rp at ry; subst ry; cases qy
      exact SeqAt.RcNeAt.tuple_bool _ ht1 hu0
    | int dy =>
      unfold Rp at ry; subst ry; obtain ⟨t2, rfl⟩ := qy
      exact SeqAt.RcNeAt.tuple_int _ _ ht1 hu0
    | str dy =>
      unfold Rp at ry; subst ry; obtain ⟨t2, rfl⟩ := qy
      exact SeqAt.RcNeAt.tuple_str _ _ ht1 hu0
    | tup dy =>
      cases m with
      | zero => simp [pl] at py
      | succ m =>
      unfold Rp at ry; obtain ⟨a2, vs2, rfl, _, h2, rs2⟩ := ry; cases qy; obtain ⟨its2, vr2, ht2, hz2⟩ := I.tuple (SqT.of h2)
      rw [pl] at px py
      have l1 : its1.length = dx.length := by rw [← vr1.length, rs1.length]
      have l2 : its2.length = dy.length := by rw [← vr2.length, rs2.length]
      have el : ∀ j (h1 : j < its1.toArray.size) (h2 : j < its2.toArray.size), SeqAt.EqAt A.in1 s its1.toArray[j] its2.toArray[j] (eqb (dx.getD j .non) (dy.getD j .non)) := fun j h1 h2 => by
        simp only [List.size_toArray] at h1 h2
        obtain ⟨v1, p1, p2⟩ := rps_at (X := X) rs1 vr1 j h1
        obtain ⟨v2, p3, p4⟩ := rps_at (X := X) rs2 vr2 j h2
        have := eq_at n m A.in1 (dx.getD j .non) (dy.getD j .non) v1 v2 _ _ I (by rw [units_in1]; omega) (pls_getD px j) (pls_getD py j) p1 p3 p2 p4
        simpa using this
      rw [eqb]
      by_cases hl : dx.length = dy.length
      · have main := SeqAt.RcNeAt.tuples (A := A) (e := fun j => eqb (dx.getD j .non) (dy.getD j .non)) ht1 ht2 hu0 el
        simp only [List.size_toArray, l1, l2, hl, Nat.min_self, beq_self_eq_true, Bool.and_true] at main
        rw [eqbs_range hl, hl]; exact main
      · have main := SeqAt.RcNeAt.tuples (A := A) (e := fun j => eqb (dx.getD j .non) (dy.getD j .non)) ht1 ht2 hu0 el
        rw [eqbs_len hl]
        simp only [List.size_toArray, l1, l2] at main
        rw [beq_eq_false_iff_ne.mpr hl, Bool.and_false] at main
        exact main
    | lst dy =>
      unfold Rp at ry; obtain ⟨a2, vs2, rfl, _, h2, rs2⟩ := ry; cases qy; obtain ⟨its2, vr2, ht2, hz2⟩ := I.list (SqL.of h2); have ht2 := ht2.isList
      exact SeqAt.RcNeAt.tuple_list ht1 ht2 hu0
  | lst dx =>
    cases n with
    | zero => simp [pl] at px
    | succ n =>
    unfold Rp at rx; obtain ⟨a1, vs1, rfl, _, h1, rs1⟩ := rx; cases qx; obtain ⟨its1, vr1, ht1, hz1⟩ := I.list (SqL.of h1); have ht1 := ht1.isList
    cases dy with
    | dic _ => simp [pl] at py
    | scr _ => simp [pl] at py
    | non =>
      unfold Rp at ry; subst ry; cases qy
      exact SeqAt.RcNeAt.list_none ht1 hu0
    | bl dy =>
      unfold Rp at ry; subst ry; cases qy
      exact SeqAt.RcNeAt.list_bool _ ht1 hu0
    | int dy =>
      unfold Rp at ry; subst ry; obtain ⟨t2, rfl⟩ := qy
      exact SeqAt.RcNeAt.list_int _ _ ht1 hu0
    | str dy =>
      unfold Rp at ry; subst ry; obtain ⟨t2, rfl⟩ := qy
      exact SeqAt.RcNeAt.list_str _ _ ht1 hu0
    | tup dy =>
      unfold Rp at ry; obtain ⟨a2, vs2, rfl, _, h2, rs2⟩ := ry; cases qy; obtain ⟨its2, vr2, ht2, hz2⟩ := I.tuple (SqT.of h2)
      exact SeqAt.RcNeAt.list_tuple ht1 ht2 hu0
    | lst dy =>
      cases m with
      | zero => simp [pl] at py
      | succ m =>
      unfold Rp at ry; obtain ⟨a2, vs2, rfl, _, h2, rs2⟩ := ry; cases qy; obtain ⟨its2, vr2, ht2, hz2⟩ := I.list (SqL.of h2); have ht2 := ht2.isList
      rw [pl] at px py
      have l1 : its1.length = dx.length := by rw [← vr1.length, rs1.length]
      have l2 : its2.length = dy.length := by rw [← vr2.length, rs2.length]
      have el : ∀ j (h1 : j < its1.toArray.size) (h2 : j < its2.toArray.size), SeqAt.EqAt A.in1 s its1.toArray[j] its2.toArray[j] (eqb (dx.getD j .non) (dy.getD j .non)) := fun j h1 h2 => by
        simp only [List.size_toArray] at h1 h2
        obtain ⟨v1, p1, p2⟩ := rps_at (X := X) rs1 vr1 j h1
        obtain ⟨v2, p3, p4⟩ := rps_at (X := X) rs2 vr2 j h2
        have := eq_at n m A.in1 (dx.getD j .non) (dy.getD j .non) v1 v2 _ _ I (by rw [units_in1]; omega) (pls_getD px j) (pls_getD py j) p1 p3 p2 p4
        simpa using this
      rw [eqb]
      by_cases hl : dx.length = dy.length
      · have main := SeqAt.RcNeAt.lists (A := A) (e := fun j => eqb (dx.getD j .non) (dy.getD j .non)) ht1 ht2 (by simp [l1, l2, hl]) hu0 el
        simp only [List.size_toArray, l1] at main
        rw [eqbs_range hl]; exact main
      · rw [eqbs_len hl]
        exact SeqAt.RcNeAt.lists_lengths ht1 ht2 (by simp only [List.size_toArray, l1, l2]; exact bne_iff_ne.mpr hl) hu0
end

section
variable {X : Cx} {G : Fc}
noncomputable def rEqD (K : PySem.W.Frag) (neg : Bool) : R2 := fun x y H Q => ∃ dx dy, pl 4 dx = true ∧ pl 4 dy = true ∧ Rp K H NoO dx x ∧ Rp K H NoO dy y ∧ Q (.bl (if neg = true then !(eqb dx dy) else eqb dx dy)) H
theorem op_eqD (hu : X.A.units + 4 < cLine) : OpR X (compareOp .Eq) (rEqD X.K false) := by
  intro pins s σ H x y v u Q I rx ry h
  obtain ⟨dx, dy, px, py, qx, qy, q⟩ := h
  exact rc_at (O := NoO) 4 4 X.A dx dy x y v u I hu px py qx qy rx ry _ _ _ _ (fin_bl I q rfl)
theorem op_neD (hu : X.A.units + 4 < cLine) : OpR X (compareOp .NotEq) (rEqD X.K true) := by
  intro pins s σ H x y v u Q I rx ry h
  obtain ⟨dx, dy, px, py, qx, qy, q⟩ := h
  exact rcne_at (O := NoO) 4 4 X.A dx dy x y v u I hu px py qx qy rx ry _ _ _ _ (fin_bl I q rfl)
noncomputable def fEq (dx dy : D) : Option D := if pl 4 dx && pl 4 dy then some (.bl (eqb dx dy)) else none
noncomputable def fNe (dx dy : D) : Option D := if pl 4 dx && pl 4 dy then some (.bl (!(eqb dx dy))) else none
theorem od_eq {K : PySem.W.Frag} : OpD K (rEqD K false) fEq := fun H O dx dy d v w Q fr e rx ry q => by
  unfold fEq at e
  split at e
  · rename_i h
    rw [Bool.and_eq_true] at h
    cases e
    exact ⟨dx, dy, h.1, h.2, rx.any h.1, ry.any h.2, q _ H (Same.refl _) rfl⟩
  · cases e
theorem od_ne {K : PySem.W.Frag} : OpD K (rEqD K true) fNe := fun H O dx dy d v w Q fr e rx ry q => by
  unfold fNe at e
  split at e
  · rename_i h
    rw [Bool.and_eq_true] at h
    cases e
    exact ⟨dx, dy, h.1, h.2, rx.any h.1, ry.any h.2, q _ H (Same.refl _) rfl⟩
  · cases e
end
end M

set_option Elab.async false
set_option linter.all false
set_option maxRecDepth 100000
namespace M
open PySem PySem.Spec PyProof.Rows L2

noncomputable def fAdd : D → D → Option D
  | .int i, .int j => some (.int (i + j))
  | .lst a, .lst b => if a.length + b.length ≤ 1000000 then some (.lst (a ++ b)) else none
  | .str a, .str b => if a.length + b.length ≤ 1000000 then some (.str (a ++ b)) else none
  | _, _ => none
noncomputable def fSub : D → D → Option D
  | .int i, .int j => some (.int (i - j))
  | _, _ => none
noncomputable def fMul : D → D → Option D
  | .int i, .int j => if i.natAbs < 2 ^ 63 ∨ j.natAbs < 2 ^ 63 then some (.int (i * j)) else none
  | _, _ => none
noncomputable def fDiv : D → D → Option D
  | .int i, .int j => if 0 < j ∧ j < 1073741824 then some (.int (i / j)) else none
  | _, _ => none
noncomputable def fMod : D → D → Option D
  | .int i, .int j => if 0 < j then some (.int (i % j)) else none
  | _, _ => none
section
variable {K : PySem.W.Frag}
theorem od_int {C : Int → Int → Prop} {g : Int → Int → D} {gv : Int → Int → V} {f : D → D → Option D} (hf : ∀ dx dy d, f dx dy = some d → ∃ i j, dx = .int i ∧ dy = .int j ∧ C i j ∧ d = g i j) (hg : ∀ i j H O, Rp K H O (g i j) (gv i j)) :
    OpD K (rI C gv) f := fun H O dx dy d v w Q fr e rx ry q => by
  obtain ⟨i, j, rfl, rfl, c, rfl⟩ := hf _ _ _ e
  exact ⟨i, j, rx.int, ry.int, c, q _ H (Same.refl _) (hg i j H O)⟩
theorem od_int0 {g : Int → Int → D} {gv : Int → Int → V} {f : D → D → Option D} (hf : ∀ dx dy d, f dx dy = some d → ∃ i j, dx = .int i ∧ dy = .int j ∧ d = g i j) (hg : ∀ i j H O, Rp K H O (g i j) (gv i j)) :
    OpD K (rI0 gv) f := fun H O dx dy d v w Q fr e rx ry q => by
  obtain ⟨i, j, rfl, rfl, rfl⟩ := hf _ _ _ e
  exact ⟨i, j, rx.int, ry.int, q _ H (Same.refl _) (hg i j H O)⟩
theorem od_sub : OpD K (rI0 fun i j => .int (i - j)) fSub := od_int0 (g := fun i j => .int (i - j)) (fun dx dy d e => by
  cases dx <;> cases dy <;> simp [fSub] at e
  exact ⟨_, _, rfl, rfl, e.symm⟩) fun _ _ _ _ => by unfold Rp; rfl
theorem od_mul : OpD K (rI CMul fun i j => .int (i * j)) fMul := od_int (g := fun i j => .int (i * j)) (fun dx dy d e => by
  cases dx <;> cases dy <;> simp [fMul] at e
  obtain ⟨c, e⟩ := e
  refine ⟨_, _, rfl, rfl, ?_, e.symm⟩
  unfold CMul
  omega (config := {})) fun _ _ _ _ => by unfold Rp; rfl
theorem od_div : OpD K (rI CDiv fun i j => .int (i / j)) fDiv := od_int (g := fun i j => .int (i / j)) (fun dx dy d e => by
  cases dx <;> cases dy <;> simp [fDiv] at e
  obtain ⟨c, e⟩ := e
  exact ⟨_, _, rfl, rfl, c, e.symm⟩) fun _ _ _ _ => by unfold Rp; rfl
theorem od_mod : OpD K (rI (fun _ j => 0 < j) fun i j => .int (i % j)) fMod := od_int (g := fun i j => .int (i % j)) (fun dx dy d e => by
  cases dx <;> cases dy <;> simp [fMod] at e
  obtain ⟨c, e⟩ := e
  exact ⟨_, _, rfl, rfl, c, e.symm⟩) fun _ _ _ _ => by unfold Rp; rfl
noncomputable def rAdd3 : R2 := fun x y H Q => (rI0 fun i j => .int (i + j)) x y H Q ∨ rCat x y H Q ∨ (∃ i j, x = .str i ∧ y = .str j ∧ i.length + j.length ≤ sizeLine ∧ Q (.str (i ++ j)) H)
theorem op_add3 {X : Cx} : OpR X (binaryOp .Add) rAdd3 := op_add.or (op_cat.or op_add_str)
theorem od_add : OpD K rAdd3 fAdd := fun H O dx dy d v w Q fr e rx ry q => by
  cases dx with
  | int i =>
    cases dy <;> simp [fAdd] at e
    exact .inl ⟨_, _, rx.int, ry.int, q _ H (Same.refl _) (by rw [← e]; unfold Rp; rfl)⟩
  | str i =>
    cases dy <;> simp [fAdd] at e
    obtain ⟨c, e⟩ := e
    exact .inr (.inr ⟨_, _, rx.str, ry.str, by rw [sizeLine_eq]; omega, q _ H (Same.refl _) (by rw [← e]; unfold Rp; rfl)⟩)
  | lst a =>
    cases dy <;> simp [fAdd] at e
    obtain ⟨c, e⟩ := e
    obtain ⟨l, xs, rfl, h1, r1⟩ := rx.lst
    obtain ⟨l', ys, rfl, h2, r2⟩ := ry.lst
    refine .inr (.inl ⟨l, l', xs, ys, rfl, rfl, h1, h2, by rw [r1.length, r2.length, sizeLine_eq]; omega, fun p hp => q _ _ (same_upd hp) ?_⟩)
    subst e
    unfold Rp
    exact ⟨p, _, rfl, fr.fr hp, upd_same, (r1.append r2).mono (same_upd hp) fun _ z => z⟩
  | _ => cases dy <;> simp [fAdd] at e
noncomputable def fCat : D → D → Option D
  | .lst a, .lst b => if a.length + b.length ≤ 1000000 then some (.lst (a ++ b)) else none
  | _, _ => none

noncomputable def dInts : List D → Option (List Int)
  | [] => some []
  | .int i :: r => (dInts r).map (i :: ·)
  | _ :: _ => none
theorem ints_some : ∀ {ds : List D} {ns : List Int}, dInts ds = some ns → ds = ns.map D.int
  | [], ns, h => by simp [dInts] at h; subst h; rfl
  | .int i :: r, ns, h => by
    simp only [dInts, Option.map_eq_some_iff] at h
    obtain ⟨ms, h1, rfl⟩ := h
    rw [ints_some h1]; rfl
  | .non :: r, ns, h => by simp [dInts] at h
  | .bl _ :: r, ns, h => by simp [dInts] at h
  | .str _ :: r, ns, h => by simp [dInts] at h
  | .tup _ :: r, ns, h => by simp [dInts] at h
  | .lst _ :: r, ns, h => by simp [dInts] at h
  | .dic _ :: r, ns, h => by simp [dInts] at h
  | .scr _ :: r, ns, h => by simp [dInts] at h
@[simp] theorem ints_map : ∀ ns : List Int, dInts (ns.map D.int) = some ns
  | [] => rfl
  | n :: ns => by simp [dInts, ints_map ns]
theorem Rps.ints {H : Hp} {O : Addr → Prop} : ∀ {ns : List Int} {vs : List V}, Rps K H O (ns.map D.int) vs → vs = ns.map V.int
  | [], vs, h => by unfold Rps at h; exact h
  | n :: ns, vs, h => by
    unfold Rps at h
    obtain ⟨v, r, rfl, p, q⟩ := h
    unfold Rp at p
    rw [p, Rps.ints q]; rfl
theorem rps_of_ints {H : Hp} {O : Addr → Prop} : ∀ (ns : List Int), Rps K H O (ns.map D.int) (ns.map V.int)
  | [] => Rps.nil
  | n :: ns => Rps.cons (by unfold Rp; rfl) (rps_of_ints ns)
noncomputable def fLt : D → D → Option D
  | .int i, .int j => some (.bl (decide (i < j)))
  | .tup a, .tup b => do let x ← dInts a; let y ← dInts b; pure (.bl (HT.lexLt x y))
  | _, _ => none
noncomputable def fLe : D → D → Option D
  | .int i, .int j => some (.bl (decide (i ≤ j)))
  | _, _ => none
noncomputable def fGt : D → D → Option D
  | .int i, .int j => some (.bl (decide (j < i)))
  | _, _ => none
noncomputable def fGe : D → D → Option D
  | .int i, .int j => some (.bl (decide (j ≤ i)))
  | .tup a, .tup b => do let x ← dInts a; let y ← dInts b; pure (.bl (!(HT.lexLt x y)))
  | _, _ => none
noncomputable def rLt2 (K : PySem.W.Frag) : R2 := fun x y H Q => (rI0 fun i j => .bl (decide (i < j))) x y H Q ∨ rLtT K x y H Q
theorem op_lt2 {X : Cx} (hu : X.A.units < cLine) : OpR X (compareOp .Lt) (rLt2 X.K) := op_lt.or (op_ltT hu)
theorem od_lt : OpD K (rLt2 K) fLt := fun H O dx dy d v w Q fr e rx ry q => by
  cases dx with
  | int i =>
    cases dy <;> simp [fLt] at e
    exact .inl ⟨_, _, rx.int, ry.int, q _ H (Same.refl _) (by rw [← e]; unfold Rp; rfl)⟩
  | tup a =>
    cases dy <;> simp [fLt, Option.bind_eq_some_iff] at e
    obtain ⟨ns, e1, ms, e2, e⟩ := e
    obtain ⟨l, xs, rfl, h1, r1⟩ := rx.tup
    obtain ⟨l', ys, rfl, h2, r2⟩ := ry.tup
    rw [ints_some e1] at r1
    rw [ints_some e2] at r2
    exact .inr ⟨l, l', ns, ms, rfl, rfl, SqT.of (by rw [← r1.ints]; exact h1), SqT.of (by rw [← r2.ints]; exact h2), q _ H (Same.refl _) (by rw [← e]; unfold Rp; rfl)⟩
  | _ => cases dy <;> simp [fLt] at e
theorem od_le : OpD K (rI0 fun i j => .bl (decide (i ≤ j))) fLe := od_int0 (g := fun i j => .bl (decide (i ≤ j))) (fun dx dy d e => by
  cases dx <;> cases dy <;> simp [fLe] at e
  exact ⟨_, _, rfl, rfl, e.symm⟩) fun _ _ _ _ => by unfold Rp; rfl
theorem od_gt : OpD K (rI0 fun i j => .bl (decide (j < i))) fGt := od_int0 (g := fun i j => .bl (decide (j < i))) (fun dx dy d e => by
  cases dx <;> cases dy <;> simp [fGt] at e
  exact ⟨_, _, rfl, rfl, e.symm⟩) fun _ _ _ _ => by unfold Rp; rfl
end

section
open PySem.SeqAt
open PySem.AutoSeq1 (wpAny_loadPart')
open PySem.MeetsSeq PySem.MeetsSeq2 PySem.MeetsSeq3
theorem rcGe_int (A : Around) (s : Shared) (a : Int) (t : Tok) (c : Int) (u : Tok) (prog : Program) (w : World) (E : Value → Shared → Prop) (Q : Value → Shared → Prop) (h : Q (.bool (decide (c ≤ a))) s) :
    wpAny (model prog w) A (richCompare .GtE (.int a t) (.int c u)) Q E s :=
  (PyProof.Rows.ge_int h : wpAny (model prog w) A (compareOp .GtE (.int a t) (.int c u)) Q E s)
theorem tuple_ge_ints (l b : Addr) (items items2 : Array Value) (n n2 : Nat) (dd dd2 : Option Addr) (sl sl2 : Array (Option Value)) (ns ms : List Int) (hi : IntsAre items.toList ns) (hj : IntsAre items2.toList ms) :
    Meets (Builtin.«tuple.__ge__» ⟨[.ref l, .ref b], []⟩)
      (fun _ R s => s.heap.get? l = some { cls := .type "tuple", dict := dd, data := .seq items n, slots := sl } ∧ s.heap.get? b = some { cls := .type "tuple", dict := dd2, data := .seq items2 n2, slots := sl2 } ∧
        R (.ok (.ret (.bool (!(HT.lexLt ns ms))))) s) :=
  .of_wp fun prog w A R s h => by
    obtain ⟨hp, g, d, tk, os⟩ := s; obtain ⟨hl, hb, h⟩ := h
    have f2 := AutoSeq1.sub_tuple_tuple
    have z1 : items.size = ns.length := by rw [← hi.length]; simp
    have z2 : items2.size = ms.length := by rw [← hj.length]; simp
    wp_walk using wpAny_loadPart' hl, wpAny_loadPart' hb, wpAny_forIn_list _ (fun rest b s' => b.1 = none ∧ s' = ⟨hp, g, d, tk, os⟩ ∧ ∃ (vs ws : List Value) (ns' ms' : List Int), rest = vs.zip ws ∧
      IntsAre vs ns' ∧ IntsAre ws ms' ∧ ns'.length + items2.size = ms'.length + items.size ∧ R (.ok (.ret (.bool (!(HT.lexLt ns' ms'))))) ⟨hp, g, d, tk, os⟩) _
    case turn =>
      rintro ⟨y, x⟩ rest b s' ⟨hb', rfl, vs, ws, ns', ms', hz, hvi, hwi, hlen, hR⟩
      cases hvi with
      | nil => rw [List.zip_nil_left] at hz; cases hz
      | cons a t hvi' =>
        cases hwi with
        | nil => rw [List.zip_nil_right] at hz; cases hz
        | cons c u hwi' =>
          rw [List.zip_cons_cons] at hz
          injection hz with hyx hrest
          injection hyx with hy hx
          subst hy hx
          rw [HT.lexLt_cons] at hR
          simp only [List.length_cons] at hlen
          obtain ⟨e, he, hiff⟩ := HT.eqAt_int A.in1 ⟨hp, g, d, tk, os⟩ a t c u
          refine wpAny_bind (he prog w _ _ ?_)
          cases e with
          | true =>
            rw [if_pos (hiff.mp rfl)] at hR
            wp_walk
            exact ⟨rfl, rfl, _, _, _, _, hrest, hvi', hwi', by omega, hR⟩
          | false =>
            rw [if_neg (fun q => absurd (hiff.mpr q) Bool.false_ne_true)] at hR
            have hri := rcGe_int A.in1 ⟨hp, g, d, tk, os⟩ a t c u prog w
            wp_walk using hri
            have ed : (!(decide (a < c))) = decide (c ≤ a) := by
              rw [Bool.eq_iff_iff]; simp
            rw [ed] at hR
            exact ⟨_, rfl, by simpa using hR⟩
    case fin =>
      rintro ⟨b1, b2⟩ s' ⟨hb', rfl, vs, ws, ns', ms', hz, hvi, hwi, hlen, hR⟩
      simp only at hb'
      subst hb'
      have hv : (!(HT.lexLt ns' ms')) = decide (items2.size ≤ items.size) := by
        cases hvi with
        | nil =>
          cases hwi with
          | nil =>
            simp only [List.length_nil] at hlen
            rw [HT.lexLt_nil_nil]
            exact (decide_eq_true (by omega)).symm
          | cons c u hw =>
            simp only [List.length_nil, List.length_cons] at hlen
            rw [HT.lexLt_nil_cons]
            exact (decide_eq_false (by omega)).symm
        | cons a t hv =>
          cases hwi with
          | nil =>
            simp only [List.length_nil, List.length_cons] at hlen
            rw [HT.lexLt_cons_nil]
            exact (decide_eq_true (by omega)).symm
          | cons c u hw =>
            rw [List.zip_cons_cons] at hz
            cases hz
      rw [hv] at hR
      wp_walk
      exact ⟨_, rfl, by simpa [Builtin.Tuple.tupleCompareSizes] using hR⟩
    case h =>
      exact ⟨rfl, rfl, items.toList, items2.toList, ns, ms, rfl, hi, hj, by omega, h⟩
theorem ge_tupInts {prog : Program} {w : World} {A : Around} {E : Value → Shared → Prop} {s : Shared} {l b : Addr} {items items2 : Array Value} {ns ms : List Int} {Q : Value → Shared → Prop} (hl : IsTup s.heap l items) (hb : IsTup s.heap b items2) (hi : IntsAre items.toList ns) (hj : IntsAre items2.toList ms)
    (hu : A.units < cLine) (h : Q (.bool (!(HT.lexLt ns ms))) s) : wpAny (model prog w) A (compareOp .GtE (.ref l) (.ref b)) Q E s := by
  obtain ⟨⟨cls, dd, data, sl⟩, ho, hc, n, hd⟩ := id hl
  obtain ⟨⟨cls2, dd2, data2, sl2⟩, ho2, hc2, n2, hd2⟩ := id hb
  simp only at hc hd hc2 hd2
  subst hc hd hc2 hd2
  exact richCompare_meets_room (op := .GtE) ⟨_, ho, rfl⟩ ⟨_, ho2, rfl⟩ PySem.F.slot_tuple_ge PySem.F.entry_tuple_ge (PySem.F.args_tuple_ge_2 _ _) (tuple_ge_ints l b items items2 n n2 dd dd2 sl sl2 ns ms hi hj)
    ⟨ho, ho2, show Value.bool (!(HT.lexLt ns ms)) ≠ Value.notImplemented ∧ Q (.bool (!(HT.lexLt ns ms))) s from ⟨(fun x => nomatch x), h⟩⟩ hu
end
section
variable {X : Cx} {K : PySem.W.Frag}
noncomputable def rGeT (K : PySem.W.Frag) : R2 := fun x y H Q => ∃ a b ns ms, x = .ref a ∧ y = .ref b ∧ SqT K H a (ns.map V.int) ∧ SqT K H b (ms.map V.int) ∧ Q (.bl (!(HT.lexLt ns ms))) H
theorem op_geT (hu : X.A.units < cLine) : OpR X (compareOp .GtE) (rGeT X.K) := by
  intro pins s σ H x y v u Q I rx ry h
  obtain ⟨a, b, ns, ms, rfl, rfl, ha, hb, q⟩ := h
  cases rx
  cases ry
  obtain ⟨its, r, p, _⟩ := I.tuple ha
  obtain ⟨its', r', p', _⟩ := I.tuple hb
  exact ge_tupInts p p' (intsAre_of r) (intsAre_of r') hu ⟨.bl _, H, I, rfl, q⟩
noncomputable def rGe2 (K : PySem.W.Frag) : R2 := fun x y H Q => (rI0 fun i j => .bl (decide (j ≤ i))) x y H Q ∨ rGeT K x y H Q
theorem op_ge2 (hu : X.A.units < cLine) : OpR X (compareOp .GtE) (rGe2 X.K) := op_ge.or (op_geT hu)
theorem od_ge : OpD K (rGe2 K) fGe := fun H O dx dy d v w Q fr e rx ry q => by
  cases dx with
  | int i =>
    cases dy <;> simp [fGe] at e
    exact .inl ⟨_, _, rx.int, ry.int, q _ H (Same.refl _) (by rw [← e]; unfold Rp; rfl)⟩
  | tup a =>
    cases dy <;> simp [fGe, Option.bind_eq_some_iff] at e
    obtain ⟨ns, e1, ms, e2, e⟩ := e
    obtain ⟨l, xs, rfl, h1, r1⟩ := rx.tup
    obtain ⟨l', ys, rfl, h2, r2⟩ := ry.tup
    rw [ints_some e1] at r1
    rw [ints_some e2] at r2
    exact .inr ⟨l, l', ns, ms, rfl, rfl, SqT.of (by rw [← r1.ints]; exact h1), SqT.of (by rw [← r2.ints]; exact h2), q _ H (Same.refl _) (by rw [← e]; unfold Rp; rfl)⟩
  | _ => cases dy <;> simp [fGe] at e
end
end M

set_option Elab.async false
set_option linter.all false
set_option maxRecDepth 100000
namespace M
open PySem PySem.Spec PyProof.Rows L2

theorem pls_get {n : Nat} {ds : List D} (h : pls n ds = true) {j : Nat} {d : D} (e : ds[j]? = some d) : pl n d = true := by
  have := pls_getD h j
  rw [List.getD_eq_getElem?_getD, e] at this
  exact this
section
variable {X : Cx} {pins : List (Addr × Obj)} {σ : St} {H : Hp} {s : Shared}
theorem mem_at {A : Around} {dx : D} {ds : List D} {x : V} {u : Value} {vs : List V} {its : List Value} (I : Inv X pins σ H s) (hu : A.units + 4 < cLine) (px : pl 3 dx = true) (ps : pls 3 ds = true) (rx : Rp X.K H NoO dx x) (qx : RelV x u) (rs : Rps X.K H NoO ds vs) (qs : Vals vs its) :
    ∃ e : Value → Bool, (∀ y, y ∈ its.toArray → SeqAt.EqAt A.in1 s y u (e y)) ∧ its.toArray.any e = ds.any fun y => eqb y dx := by
  classical
  have l : its.length = ds.length := by rw [← qs.length, rs.length]
  have at' : ∀ (j : Nat) (y : Value), its[j]? = some y → ∃ v d, vs[j]? = some v ∧ ds[j]? = some d ∧ RelV v y ∧ Rp X.K H NoO d v := fun j y e => by
    have hj : j < its.length := (List.getElem?_eq_some_iff.mp e).1
    have h2 : j < ds.length := by omega (config := {})
    obtain ⟨v, e1, p⟩ := rs.get (i := j) (d := ds[j]) (by simp [h2])
    obtain ⟨z, e2, p2⟩ := qs.get e1
    rw [e] at e2; cases e2
    exact ⟨v, _, e1, by simp [h2], p2, p⟩
  have same : ∀ (j j' : Nat) (y : Value) (d d' : D), its[j]? = some y → its[j']? = some y → ds[j]? = some d → ds[j']? = some d' → d = d' := fun j j' y d d' e e' h h' => by
    obtain ⟨v, d1, _, h1, q1, r1⟩ := at' j y e
    obtain ⟨v', d2, _, h2, q2, r2⟩ := at' j' y e'
    rw [h] at h1; cases h1
    rw [h'] at h2; cases h2
    cases q1.inj q2
    exact r1.inj (pls_get ps h) (pls_get ps h') r2
  let e : Value → Bool := fun y => decide (∃ (j : Nat) (d : D), its[j]? = some y ∧ ds[j]? = some d ∧ eqb d dx = true)
  have ee : ∀ (j : Nat) (y : Value) (d : D), its[j]? = some y → ds[j]? = some d → e y = eqb d dx := fun j y d h1 h2 => by
    cases q : eqb d dx with
    | true => exact decide_eq_true ⟨j, d, h1, h2, q⟩
    | false =>
      refine decide_eq_false ?_
      rintro ⟨j', d', h1', h2', q'⟩
      rw [same j j' y d d' h1 h1' h2 h2', q'] at q; cases q
  refine ⟨e, fun y hy => ?_, ?_⟩
  · have hy : y ∈ its := by simpa using hy
    obtain ⟨j, hj⟩ := List.getElem?_of_mem hy
    obtain ⟨v, d, h1, h2, q1, r1⟩ := at' j y hj
    rw [ee j y d hj h2]
    exact eq_at (O := NoO) 3 3 A.in1 d dx v x y u I (by rw [units_in1]; omega (config := {})) (pls_get ps h2) px r1 rx q1 qx
  · rw [List.any_toArray, Bool.eq_iff_iff, List.any_eq_true, List.any_eq_true]
    constructor
    · rintro ⟨y, hy, q⟩
      obtain ⟨j, hj⟩ := List.getElem?_of_mem hy
      obtain ⟨v, d, h1, h2, q1, r1⟩ := at' j y hj
      rw [ee j y d hj h2] at q
      exact ⟨d, List.mem_of_getElem? h2, q⟩
    · rintro ⟨d, hd, q⟩
      obtain ⟨j, hj⟩ := List.getElem?_of_mem hd
      have h2 : j < its.length := by rw [l]; exact (List.getElem?_eq_some_iff.mp hj).1
      refine ⟨its[j], List.getElem_mem h2, ?_⟩
      rw [ee j _ d (by simp [h2]) hj]; exact q
end
noncomputable def rInD (K : PySem.W.Frag) (neg : Bool) : R2 := fun x y H Q => ∃ dx ds p vs, pl 3 dx = true ∧ pls 3 ds = true ∧ y = .ref p ∧ Rp K H NoO dx x ∧ (H p = some (.lst vs) ∨ H p = some (.tup vs)) ∧ Rps K H NoO ds vs ∧
  Q (.bl (if neg = true then !(ds.any fun y => eqb y dx) else ds.any fun y => eqb y dx)) H
section
variable {X : Cx} {K : PySem.W.Frag}
theorem op_inD (hu : X.A.units + 4 < cLine) : OpR X (compareOp .In) (rInD X.K false) := by
  intro pins s σ H x y v u Q I rx ry h
  obtain ⟨dx, ds, p, vs, px, ps, rfl, qx, h2, rs, q⟩ := h
  cases ry
  rcases h2 with h2 | h2
  · obtain ⟨its, vr, ht, hz⟩ := I.list (SqL.of h2)
    obtain ⟨e, he, ha⟩ := mem_at (A := X.A) I hu px ps qx rx rs vr
    exact SeqAt.in_listAt e ht.isList he (by rw [ha]; exact fin_bl I q rfl)
  · obtain ⟨its, vr, ht, hz⟩ := I.tuple (SqT.of h2)
    obtain ⟨e, he, ha⟩ := mem_at (A := X.A) I hu px ps qx rx rs vr
    exact SeqAt.in_tupleAt e ht he (by rw [ha]; exact fin_bl I q rfl)
noncomputable def fIn : D → D → Option D
  | x, .lst ds => if pl 3 x && pls 3 ds then some (.bl (ds.any fun y => eqb y x)) else none
  | x, .tup ds => if pl 3 x && pls 3 ds then some (.bl (ds.any fun y => eqb y x)) else none
  | _, _ => none
noncomputable def fNotIn : D → D → Option D
  | x, .lst ds => if pl 3 x && pls 3 ds then some (.bl (!(ds.any fun y => eqb y x))) else none
  | x, .tup ds => if pl 3 x && pls 3 ds then some (.bl (!(ds.any fun y => eqb y x))) else none
  | _, _ => none
theorem od_in : OpD K (rInD K false) fIn := fun H O dx dy d v w Q fr e rx ry q => by
  unfold fIn at e
  split at e
  · split at e
    · rename_i h
      rw [Bool.and_eq_true] at h
      cases e
      obtain ⟨p, vs, rfl, h1, r1⟩ := ry.lst
      exact ⟨dx, _, p, vs, h.1, h.2, rfl, rx.any h.1, .inl h1, r1.mono (Same.refl _) fun _ z => z.elim, q _ H (Same.refl _) rfl⟩
    · cases e
  · split at e
    · rename_i h
      rw [Bool.and_eq_true] at h
      cases e
      obtain ⟨p, vs, rfl, h1, r1⟩ := ry.tup
      exact ⟨dx, _, p, vs, h.1, h.2, rfl, rx.any h.1, .inr h1, r1.mono (Same.refl _) fun _ z => z.elim, q _ H (Same.refl _) rfl⟩
    · cases e
  · cases e

noncomputable def fIx : D → D → Option D
  | .lst ds, .int i => atI ds i
  | .tup ds, .int i => atI ds i
  | .scr ns, .int i => (atI ns i).map .int
  | .str z, .int i => if z.length ≤ 1000000 then (atI z.cps.toList i).map fun c => .str ⟨#[c]⟩ else none
  | _, _ => none
theorem atI_rps {H : Hp} {O : Addr → Prop} {ds : List D} {vs : List V} {i : Int} {d : D} (r : Rps K H O ds vs) (h : atI ds i = some d) : ∃ v, atI vs i = some v ∧ Rp K H O d v := by
  unfold atI at h ⊢
  rw [← r.length] at h
  cases e : ixN vs.length i with
  | none => rw [e] at h; cases h
  | some j =>
    rw [e] at h
    exact r.get h
theorem od_ix : OpD K (rIx K) fIx := fun H O dx dy d v w Q fr e rx ry q => by
  cases dx with
  | lst ds =>
    cases dy <;> simp [fIx] at e
    obtain ⟨p, vs, rfl, h1, r1⟩ := rx.lst
    obtain ⟨v, e1, p1⟩ := atI_rps r1 e
    exact .inl ⟨p, vs, _, v, rfl, ry.int, SqL.of h1, e1, q _ H (Same.refl _) p1⟩
  | tup ds =>
    cases dy <;> simp [fIx] at e
    obtain ⟨p, vs, rfl, h1, r1⟩ := rx.tup
    obtain ⟨v, e1, p1⟩ := atI_rps r1 e
    exact .inr (.inl ⟨p, vs, _, v, rfl, ry.int, SqT.of h1, e1, q _ H (Same.refl _) p1⟩)
  | scr ns =>
    cases dy <;> simp [fIx] at e
    obtain ⟨n, e, rfl⟩ := e
    rcases rx with rx | ⟨a, _, h⟩
    · obtain ⟨p, rfl, h1⟩ := rx.scr
      refine .inl ⟨p, _, _, .int n, rfl, ry.int, h1, ?_, q _ H (Same.refl _) (by unfold Rp; rfl)⟩
      unfold atI at e ⊢
      rw [List.length_map]
      cases e' : ixN ns.length _ with
      | none => rw [e'] at e; cases e
      | some j =>
        rw [e'] at e
        simp only [Option.bind_some] at e ⊢
        rw [List.getElem?_map, e]; rfl
    · exact h.elim
  | str z =>
    cases dy <;> simp [fIx] at e
    obtain ⟨hz, c, e, rfl⟩ := e
    exact .inr (.inr ⟨z, _, c, rx.str, ry.int, by rw [sizeLine_eq]; omega, e, q _ H (Same.refl _) (by unfold Rp; rfl)⟩)
  | _ => cases dy <;> simp [fIx] at e
end

noncomputable def cutD {α : Type} (xs : List α) (lo hi : Option Int) : List α := (xs.drop (HT.sIx xs.length 0 lo)).take (HT.sIx xs.length xs.length hi - HT.sIx xs.length 0 lo)
noncomputable def oPart (m : EV) : Ev → R (Option Int) := fun E => m E >>= fun d => match d with
  | .int i => .ok (some i)
  | _ => .no
noncomputable def oNone : Ev → R (Option Int) := fun _ => .ok none
noncomputable def fSl : D → Option Int → Option Int → Option D
  | .lst ds, lo, hi => some (.lst (cutD ds lo hi))
  | .tup ds, lo, hi => if HT.sIx ds.length 0 lo = 0 ∧ HT.sIx ds.length ds.length hi = ds.length then none else some (.tup (cutD ds lo hi))
  | _, _, _ => none
noncomputable def eSl (a : EV) (lo hi : Ev → R (Option Int)) : EV := fun E => a E >>= fun x => lo E >>= fun l => hi E >>= fun h => ofO (fSl x l h)
section
variable {X : Cx} {G : Fc}
noncomputable def SO (X : Cx) (G : Fc) (e : Option Expr) (m : Ev → R (Option Int)) : Prop :=
  PO X e fun σ H Q => ∃ E, Rel X.K G E σ H ∧ Fin (m E) (fun o => ∀ H', Same H H' → Q o H') G.xc
theorem _root_.L2.PO.imp {X : Cx} {e : Option Expr} {t t' : TO} (h : PO X e t) (i : ∀ σ H Q, t' σ H Q → t σ H Q) : PO X e t' := fun pins s σ H Q I q => h pins s σ H Q I (i σ H Q q)
theorem so_none : SO X G none oNone := po_none.imp fun σ H Q z0 => z0.elim fun E z0 => z0.elim fun hr f => f H (Same.refl _)
theorem so_some {e : Expr} {m : EV} (h : SE X G e m) : SO X G (some e) (oPart m) := (po_some h).imp fun σ H Q z0 => z0.elim fun E z0 => z0.elim fun hr f => ⟨E, hr, (Fin.bind f).mono fun d p v H' s z => by
  cases d with
  | int i => exact ⟨i, z.int, p H' s⟩
  | _ => exact p.elim⟩
theorem rps_cut {K : PySem.W.Frag} {H : Hp} {O : Addr → Prop} {ds : List D} {vs : List V} (r : Rps K H O ds vs) (lo hi : Option Int) : Rps K H O (cutD ds lo hi) (cutV vs lo hi) := by
  unfold cutD cutV
  rw [r.length]
  exact (r.drop _).take _
theorem sf_slice {e : Expr} {lo hi : Option Expr} {p2 pos : Pos} {m : EV} {ml mh : Ev → R (Option Int)} (he : SE X G e m) (hl : SO X G lo ml) (hh : SO X G hi mh) : SF X G (.Subscript e (.Slice lo hi none p2) pos) (eSl m ml mh) :=
  (pe_slice (SlR.or sl_list sl_tup) he hl hh).imp fun σ H Q z0 => z0.elim fun E z0 => z0.elim fun hr f => ⟨E, hr, (Fin.bind f).mono fun d p v H1 s1 z1 => ⟨E, hr.same s1, (Fin.bind p).mono fun l p H2 s2 => ⟨E, hr.same (s1.trans s2), (Fin.bind p).mono fun h p H3 s3 => by
    obtain ⟨d', e', p⟩ := Fin.of p
    have z := z1.mono (s2.trans s3) fun _ z => z
    have fr : ∀ a, H3 a = none → ¬ Ow G.pr E σ a := fun a ha => (hr.same (s1.trans (s2.trans s3))).fresh ha
    cases d with
    | lst ds =>
      cases e'
      obtain ⟨a, vs, rfl, h1, r1⟩ := z.lst
      refine .inl ⟨a, vs, rfl, SqL.of h1, fun q hq => p _ _ (s1.trans (s2.trans (s3.trans (same_upd hq)))) ?_⟩
      unfold Rp
      exact ⟨q, _, rfl, fr q hq, upd_same, (rps_cut r1 _ _).mono (same_upd hq) fun _ z => z⟩
    | tup ds =>
      simp only [fSl] at e'
      split at e'
      · cases e'
      · rename_i hn
        cases e'
        obtain ⟨a, vs, rfl, h1, r1⟩ := z.tup
        refine .inr ⟨a, vs, rfl, SqT.of h1, by rw [r1.length]; exact hn, fun q hq => p _ _ (s1.trans (s2.trans (s3.trans (same_upd hq)))) ?_⟩
        unfold Rp
        exact ⟨q, _, rfl, fr q hq, upd_same, (rps_cut r1 _ _).mono (same_upd hq) fun _ z => z⟩
    | _ => cases e'⟩⟩⟩
end

noncomputable def dget : List (List Int × D) → List Int → Option D
  | [], _ => none
  | (k, d) :: r, j => if k = j then some d else dget r j
noncomputable def dput (kvs : List (List Int × D)) (k : List Int) (v : D) : List (List Int × D) :=
  if kvs.any (fun kv => decide (kv.1 = k)) = true then kvs.map (fun kv => if kv.1 = k then (kv.1, v) else kv) else kvs ++ [(k, v)]
noncomputable def keyOf : D → Option (List Int)
  | .tup ds => dInts ds
  | _ => none
noncomputable def fDget : D → D → Option D
  | .dic kvs, k => (keyOf k).bind (dget kvs)
  | _, _ => none
noncomputable def fDin : D → D → Option D
  | k, .dic kvs => (keyOf k).map fun k => .bl (dget kvs k).isSome
  | _, _ => none
noncomputable def fDnotIn : D → D → Option D
  | k, .dic kvs => (keyOf k).map fun k => .bl (!(dget kvs k).isSome)
  | _, _ => none
section
variable {K : PySem.W.Frag} {H : Hp} {O : Addr → Prop}
theorem inl_inj {a b : List Int} : a.map (Sum.inl : Int → Key) = b.map Sum.inl ↔ a = b :=
  ⟨fun h => by
    have := congrArg (List.map fun k : Key => match k with | .inl i => i | .inr _ => 0) h
    simpa [Function.comp_def] using this, fun h => by rw [h]⟩
theorem Rpk.get : ∀ {kvs : List (List Int × D)} {ws : List (List Key × V)} (k : List Int), Rpk K H O kvs ws → (match dget kvs k with | some d => ∃ v, valV ws (k.map Sum.inl) = some v ∧ Rp K H O d v | none => valV ws (k.map Sum.inl) = none)
  | [], ws, k, h => by unfold Rpk at h; subst h; rfl
  | (j, d) :: r, ws, k, h => by
    unfold Rpk at h
    obtain ⟨v, r', rfl, p, q⟩ := h
    unfold Rpq at p
    unfold dget
    by_cases e : j = k
    · rw [if_pos e]
      exact ⟨v, valV_pos (by rw [e]), p⟩
    · rw [if_neg e, valV_neg (fun z => e (inl_inj.mp z))]
      exact Rpk.get k q
theorem Rpk.length : ∀ {kvs : List (List Int × D)} {ws : List (List Key × V)}, Rpk K H O kvs ws → ws.length = kvs.length
  | [], ws, h => by unfold Rpk at h; subst h; rfl
  | (j, d) :: r, ws, h => by
    unfold Rpk at h
    obtain ⟨v, r', rfl, p, q⟩ := h
    simp [Rpk.length q]
theorem Rpk.any : ∀ {kvs : List (List Int × D)} {ws : List (List Key × V)} (k : List Int), Rpk K H O kvs ws → ws.any (fun kv => decide (kv.1 = k.map Sum.inl)) = kvs.any fun kv => decide (kv.1 = k)
  | [], ws, k, h => by unfold Rpk at h; subst h; rfl
  | (j, d) :: r, ws, k, h => by
    unfold Rpk at h
    obtain ⟨v, r', rfl, p, q⟩ := h
    rw [List.any_cons, List.any_cons, Rpk.any k q]
    congr 1
    rw [Bool.eq_iff_iff]; simp only [decide_eq_true_eq]; exact inl_inj
theorem Rpk.repl {d : D} {v : V} {k : List Int} (p : Rp K H O d v) : ∀ {kvs : List (List Int × D)} {ws : List (List Key × V)}, Rpk K H O kvs ws → Rpk K H O (kvs.map fun kv => if kv.1 = k then (kv.1, d) else kv) (ws.map fun kv => if kv.1 = k.map Sum.inl then (kv.1, v) else kv)
  | [], ws, h => by unfold Rpk at h; subst h; unfold Rpk; rfl
  | (j, d0) :: r, ws, h => by
    unfold Rpk at h
    obtain ⟨u, r', rfl, p0, q⟩ := h
    rw [List.map_cons, List.map_cons]
    by_cases e : j = k
    · subst e
      rw [if_pos rfl, if_pos rfl]
      unfold Rpk
      exact ⟨v, _, rfl, by unfold Rpq; exact p, Rpk.repl p q⟩
    · rw [if_neg e, if_neg (fun z => e (inl_inj.mp z))]
      unfold Rpk
      exact ⟨u, _, rfl, p0, Rpk.repl p q⟩
theorem Rpk.snoc {d : D} {v : V} {k : List Int} (p : Rp K H O d v) : ∀ {kvs : List (List Int × D)} {ws : List (List Key × V)}, Rpk K H O kvs ws → Rpk K H O (kvs ++ [(k, d)]) (ws ++ [(k.map Sum.inl, v)])
  | [], ws, h => by
    unfold Rpk at h; subst h; unfold Rpk
    exact ⟨v, [], rfl, by unfold Rpq; exact p, by unfold Rpk; rfl⟩
  | (j, d0) :: r, ws, h => by
    unfold Rpk at h
    obtain ⟨u, r', rfl, p0, q⟩ := h
    show Rpk K H O ((j, d0) :: (r ++ [(k, d)])) _
    unfold Rpk
    exact ⟨u, _, rfl, p0, Rpk.snoc p q⟩
theorem Rpk.put {kvs : List (List Int × D)} {ws : List (List Key × V)} {k : List Int} {d : D} {v : V} (h : Rpk K H O kvs ws) (p : Rp K H O d v) : Rpk K H O (dput kvs k d) (putK ws (k.map Sum.inl) v) := by
  unfold dput putK
  rw [h.any k]
  split
  · exact Rpk.repl p h
  · exact Rpk.snoc p h
theorem key_of' {k : D} {ks : List Int} {v : V} (e : keyOf k = some ks) (r : Rt K H O k v) : ∃ b, v = .ref b ∧ H b = some (.tup ((ks.map (Sum.inl : Int → Key)).map kV)) := by
  cases k with
  | tup ds =>
    obtain ⟨b, vs, rfl, h, r⟩ := r.tup
    have := ints_some e
    subst this
    refine ⟨b, rfl, ?_⟩
    rw [h, r.ints, List.map_map]; rfl
  | _ => simp [keyOf] at e
end
section
variable {X : Cx} {G : Fc} {o i : Expr} {mo mi : EV} {pos : Pos}
theorem dget_rd {H : Hp} {a b : Addr} {kvs : List (List Key × V)} {k : List Key} (e : Rd H a (.dT kvs)) (eb : H b = some (.tup (k.map kV))) : DGet H a (.ref b) (valV kvs k) := .inr ⟨kvs, k, b, e, rfl, eb, rfl⟩
theorem dget_is {K : PySem.W.Frag} {H : Hp} {O : Addr → Prop} {kvs : List (List Int × D)} {ws : List (List Key × V)} {ks : List Int} {a b : Addr} (rk : Rpk K H O kvs ws) (ha : Rd H a (.dT ws)) (hb : H b = some (.tup ((ks.map (Sum.inl : Int → Key)).map kV))) :
    ∃ o, DGet H a (.ref b) o ∧ o.isSome = (dget kvs ks).isSome := by
  refine ⟨_, dget_rd ha hb, ?_⟩
  have g := rk.get ks
  cases e : dget kvs ks with
  | none => rw [e] at g; dsimp only at g; rw [g]; rfl
  | some d => rw [e] at g; obtain ⟨v, g1, _⟩ := g; rw [g1]; rfl
end
end M

set_option Elab.async false
set_option linter.all false
set_option maxRecDepth 100000
namespace M
open PySem PySem.Spec PyProof.Rows L2

section
variable {K : PySem.W.Frag} {G : Fc} {E : Ev} {σ : St} {H H' : Hp}
theorem get_set {α : Type} {l : List α} {i j : Nat} {x y : α} (h : (l.set i x)[j]? = some y) : (j = i ∧ y = x) ∨ (j ≠ i ∧ l[j]? = some y) := by
  by_cases e : j = i
  · subst e
    rw [List.getElem?_set_self'] at h
    cases q : l[j]? with
    | none => rw [q] at h; cases h
    | some z => rw [q] at h; simp at h; exact .inl ⟨rfl, h.symm⟩
  · rw [List.getElem?_set_ne (Ne.symm e)] at h
    exact .inr ⟨e, h⟩
theorem set_ne {α : Type} {l : List α} {i j : Nat} {x : α} (e : j ≠ i) : (l.set i x)[j]? = l[j]? := List.getElem?_set_ne (Ne.symm e)
theorem set_self {α : Type} {l : List α} {i : Nat} {x : α} (h : i < l.length) : (l.set i x)[i]? = some x := by simp [h]
theorem Ow.setF {i : Nat} {d : D} {v : Option V} {a : Addr} (h : Ow G.pr (E.set i (.fz d)) (σ.set i v) a) : Ow G.pr E σ a := by
  rcases h with h | ⟨j, d', h1, h2⟩
  · exact .inl h
  · rcases get_set h1 with ⟨_, e⟩ | ⟨n, h1⟩
    · cases e
    · rw [set_ne n] at h2
      exact .inr ⟨j, d', h1, h2⟩
theorem Rel.setF {i : Nat} {d : D} {v : V} (r : Rel K G E σ H) (p : Rp K H (Ow G.pr E σ) d v) : Rel K G (E.set i (.fz d)) (σ.set i (some v)) H where
  len := by simp [r.len]
  fz := fun j d' h => by
    rcases get_set h with ⟨e, z⟩ | ⟨n, h⟩
    · cases z
      subst e
      have hj : j < σ.length := by
        rw [← r.len]
        have := (List.getElem?_eq_some_iff.mp h).1
        simpa using this
      exact ⟨v, set_self hj, p.mono (Same.refl _) fun _ z => z.setF⟩
    · obtain ⟨u, h1, h2⟩ := r.fz j d' h
      exact ⟨u, by rw [set_ne n]; exact h1, h2.mono (Same.refl _) fun _ z => z.setF⟩
  ow := fun j d' h => by
    rcases get_set h with ⟨e, z⟩ | ⟨n, h⟩
    · cases z
    · obtain ⟨u, h1, h2, h3⟩ := r.ow j d' h
      exact ⟨u, by rw [set_ne n]; exact h1, h2.mono (Same.refl _) fun _ z => z.setF, h3⟩
  ne := fun j k d' e' a h1 h2 h3 h4 => by
    rcases get_set h1 with ⟨_, z⟩ | ⟨n1, h1⟩
    · cases z
    rcases get_set h2 with ⟨_, z⟩ | ⟨n2, h2⟩
    · cases z
    rw [set_ne n1] at h3
    rw [set_ne n2] at h4
    exact r.ne j k d' e' a h1 h2 h3 h4
  base := r.base
  prt := r.prt
theorem Rel.setO {i : Nat} {d : D} {a : Addr} (r : Rel K G E σ H) (s : Same H H') (n : H a = none) (p : Own K H' (fun b => Ow G.pr E σ b ∨ b = a) d a) : Rel K G (E.set i (.ow d)) (σ.set i (some (.ref a))) H' := by
  have no : ¬ Ow G.pr E σ a := r.fresh n
  have sub : ∀ b, Ow G.pr (E.set i (.ow d)) (σ.set i (some (.ref a))) b → Ow G.pr E σ b ∨ b = a := fun b h => by
    rcases h with h | ⟨j, d', h1, h2⟩
    · exact .inl (.inl h)
    · rcases get_set h1 with ⟨e, z⟩ | ⟨n1, h1⟩
      · cases z
        subst e
        rcases get_set h2 with ⟨_, z⟩ | ⟨n, _⟩
        · cases z; exact .inr rfl
        · exact absurd rfl n
      · rw [set_ne n1] at h2
        exact .inl (.inr ⟨j, d', h1, h2⟩)
  have h0 : G.h0 a = none := by
    cases q : G.h0 a with
    | none => rfl
    | some o => rw [r.base _ _ q] at n; cases n
  refine ⟨by simp [r.len], fun j d' h => ?_, fun j d' h => ?_, fun j k d' e' b h1 h2 h3 h4 => ?_, r.base.trans s, r.prt⟩
  · rcases get_set h with ⟨e, z⟩ | ⟨n1, h⟩
    · cases z
    · obtain ⟨u, h1, h2⟩ := r.fz j d' h
      exact ⟨u, by rw [set_ne n1]; exact h1, (h2.fresh n).mono s sub⟩
  · rcases get_set h with ⟨e, z⟩ | ⟨n1, h⟩
    · cases z
      subst e
      have hj : j < σ.length := by
        rw [← r.len]
        have := (List.getElem?_eq_some_iff.mp h).1
        simpa using this
      exact ⟨a, set_self hj, p.mono (Same.refl _) sub, h0⟩
    · obtain ⟨u, h1, h2, h3⟩ := r.ow j d' h
      refine ⟨u, by rw [set_ne n1]; exact h1, ?_, h3⟩
      have h4 : Own K H (fun b => Ow G.pr E σ b ∨ b = a) d' u := by
        cases d' with
        | lst ds => obtain ⟨vs, e, q⟩ := h2; exact ⟨vs, e, q.fresh n⟩
        | dic ds => obtain ⟨vs, e, q⟩ := h2; exact ⟨vs, e, q.fresh n⟩
        | _ => exact h2
      exact h4.mono s sub
  · rcases get_set h1 with ⟨ej, zj⟩ | ⟨n1, h1⟩
    · rcases get_set h2 with ⟨ek, zk⟩ | ⟨n2, h2'⟩
      · rw [ej, ek]
      · exfalso
        cases ej
        rcases get_set h3 with ⟨_, z⟩ | ⟨n, _⟩
        · cases z
          rw [set_ne n2] at h4
          exact no (.inr ⟨k, e', h2', h4⟩)
        · exact n rfl
    · rename_i hh1
      rcases get_set h2 with ⟨ek, zk⟩ | ⟨n2, h2⟩
      · exfalso
        cases ek
        rcases get_set h4 with ⟨_, z⟩ | ⟨n, _⟩
        · cases z
          rw [set_ne n1] at h3
          exact no (.inr ⟨j, d', h1, h3⟩)
        · exact n rfl
      · rw [set_ne n1] at h3
        rw [set_ne n2] at h4
        exact r.ne j k d' e' b h1 h2 h3 h4
end

section
variable {K : PySem.W.Frag} {G : Fc} {E : Ev} {σ : St} {H H' : Hp}
theorem Rel.write {i : Nat} {d d' : D} {a : Addr} {o' : HO} (r : Rel K G E σ H) (hi : E[i]? = some (.ow d)) (ha : σ[i]? = some (some (.ref a))) (p : Own K (upd H a o') (Ow G.pr E σ) d' a) : Rel K G (E.set i (.ow d')) σ (upd H a o') := by
  have oa : Ow G.pr E σ a := .inr ⟨i, d, hi, ha⟩
  have sub : ∀ b, Ow G.pr (E.set i (.ow d')) σ b → Ow G.pr E σ b := fun b h => by
    rcases h with h | ⟨j, d1, h1, h2⟩
    · exact .inl h
    · rcases get_set h1 with ⟨e, z⟩ | ⟨n1, h1⟩
      · subst e; exact .inr ⟨j, d, hi, h2⟩
      · exact .inr ⟨j, d1, h1, h2⟩
  obtain ⟨a', e1, e2, e3⟩ := r.ow i d hi
  rw [ha] at e1; cases e1
  refine ⟨by simp [r.len], fun j d1 h => ?_, fun j d1 h => ?_, fun j k d1 d2 b h1 h2 h3 h4 => ?_, fun b o q => ?_, r.prt⟩
  · rcases get_set h with ⟨e, z⟩ | ⟨n1, h⟩
    · cases z
    · obtain ⟨u, h1, h2⟩ := r.fz j d1 h
      exact ⟨u, h1, (h2.write oa).mono (Same.refl _) sub⟩
  · rcases get_set h with ⟨e, z⟩ | ⟨n1, h⟩
    · cases z
      subst e
      exact ⟨a, ha, p.mono (Same.refl _) sub, e3⟩
    · obtain ⟨u, h1, h2, h3⟩ := r.ow j d1 h
      have hu : u ≠ a := fun z => by subst z; exact n1 (r.ne j i d1 d u h hi h1 ha)
      refine ⟨u, h1, ?_, h3⟩
      cases d1 with
      | lst ds => obtain ⟨vs, e, q⟩ := h2; exact ⟨vs, by rw [upd_ne hu]; exact e, (q.write oa).mono (Same.refl _) sub⟩
      | dic ds => obtain ⟨vs, e, q⟩ := h2; exact ⟨vs, by rw [upd_ne hu]; exact e, (q.write oa).mono (Same.refl _) sub⟩
      | _ => exact h2
  · have q1 : ∃ x, E[j]? = some (.ow x) := by
      rcases get_set h1 with ⟨e, z⟩ | ⟨n1, h1⟩
      · exact ⟨d, by rw [e]; exact hi⟩
      · exact ⟨_, h1⟩
    have q2 : ∃ x, E[k]? = some (.ow x) := by
      rcases get_set h2 with ⟨e, z⟩ | ⟨n1, h2⟩
      · exact ⟨d, by rw [e]; exact hi⟩
      · exact ⟨_, h2⟩
    obtain ⟨x1, q1⟩ := q1
    obtain ⟨x2, q2⟩ := q2
    exact r.ne j k x1 x2 b q1 q2 h3 h4
  · have hb : b ≠ a := fun z => by subst z; rw [e3] at q; cases q
    rw [upd_ne hb]
    exact r.base _ _ q
noncomputable def frz (i : Nat) (E : Ev) : Ev := match E[i]? with
  | some (.ow d) => E.set i (.fz d)
  | _ => E
theorem Rel.frz {i : Nat} (r : Rel K G E σ H) : Rel K G (frz i E) σ H ∨ ∃ a ws, H a = some (.dT ws) ∧ G.h0 a = none ∧ ∀ o, Rel K G (frz i E) σ (upd H a (.frz o (.dT ws))) := by
  unfold M.frz
  split
  · rename_i d hi
    obtain ⟨a, e1, e2, e3⟩ := r.ow i d hi
    have eσ : σ.set i (some (.ref a)) = σ := by
      apply List.ext_getElem?
      intro j
      by_cases e : j = i
      · subst e; rw [set_self (List.getElem?_eq_some_iff.mp e1).1, e1]
      · rw [set_ne e]
    have sub : ∀ b, Ow G.pr (E.set i (.fz d)) σ b → Ow G.pr E σ b ∧ b ≠ a := fun b h => by
      have h' : Ow G.pr (E.set i (.fz d)) (σ.set i (some (.ref a))) b := by rw [eσ]; exact h
      refine ⟨h'.setF, fun z => ?_⟩
      subst z
      rcases h with h | ⟨j, d1, h1, h2⟩
      · obtain ⟨o, q, _⟩ := r.prt b h
        rw [e3] at q; cases q
      · rcases get_set h1 with ⟨e, z⟩ | ⟨n1, h1⟩
        · cases z
        · exact n1 (r.ne j i d1 d b h1 hi h2 e1)
    have ne : ∀ (j k : Nat) (d1 d2 : D) (b : Addr), (E.set i (.fz d))[j]? = some (.ow d1) → (E.set i (.fz d))[k]? = some (.ow d2) → σ[j]? = some (some (.ref b)) → σ[k]? = some (some (.ref b)) → j = k := fun j k d1 d2 b h1 h2 h3 h4 => by
      rcases get_set h1 with ⟨_, z⟩ | ⟨n1, h1⟩
      · cases z
      rcases get_set h2 with ⟨_, z⟩ | ⟨n2, h2⟩
      · cases z
      exact r.ne j k d1 d2 b h1 h2 h3 h4
    cases hd : isDic d with
    | false =>
      refine .inl ⟨by simp [r.len], fun j d1 h => ?_, fun j d1 h => ?_, ne, r.base, r.prt⟩
      · rcases get_set h with ⟨e, z⟩ | ⟨n1, h⟩
        · cases z
          subst e
          exact ⟨_, e1, (e2.mono (Same.refl _) fun b z => (sub b z).1).rp (fun z => (sub a z).2 rfl) hd⟩
        · obtain ⟨u, h1, h2⟩ := r.fz j d1 h
          exact ⟨u, h1, h2.mono (Same.refl _) fun b z => (sub b z).1⟩
      · rcases get_set h with ⟨e, z⟩ | ⟨n1, h⟩
        · cases z
        · obtain ⟨u, h1, h2, h3⟩ := r.ow j d1 h
          exact ⟨u, h1, h2.mono (Same.refl _) fun b z => (sub b z).1, h3⟩
    | true =>
      cases d with
      | dic ds =>
        obtain ⟨ws, e, t⟩ := (e2.mono (O' := Ow G.pr (E.set i (.fz (.dic ds))) σ) (Same.refl _) fun b z => (sub b z).1).tagged (fun z => (sub a z).2 rfl)
        refine .inr ⟨a, ws, e, e3, fun o => ⟨by simp [r.len], fun j d1 h => ?_, fun j d1 h => ?_, ne, fun b u q => ?_, r.prt⟩⟩
        · rcases get_set h with ⟨e, z⟩ | ⟨n1, h⟩
          · cases z
            subst e
            exact ⟨_, e1, t o⟩
          · obtain ⟨u, h1, h2⟩ := r.fz j d1 h
            exact ⟨u, h1, (h2.mono (Same.refl _) fun b z => (sub b z).1).tag e⟩
        · rcases get_set h with ⟨e, z⟩ | ⟨n1, h⟩
          · cases z
          · obtain ⟨u, h1, h2, h3⟩ := r.ow j d1 h
            have hu : u ≠ a := fun z => by subst z; exact n1 (r.ne j i d1 _ u h hi h1 e1)
            refine ⟨u, h1, ?_, h3⟩
            cases d1 with
            | lst ds => obtain ⟨vs, e', q⟩ := h2; exact ⟨vs, by rw [upd_ne hu]; exact e', (q.mono (Same.refl _) fun b z => (sub b z).1).tag e⟩
            | dic ds => obtain ⟨vs, e', q⟩ := h2; exact ⟨vs, by rw [upd_ne hu]; exact e', (q.mono (Same.refl _) fun b z => (sub b z).1).tag e⟩
            | _ => exact h2
        · rw [upd_ne (fun z => by rw [z, e3] at q; cases q)]
          exact r.base _ _ q
      | _ => cases hd
  · exact .inl r
end

noncomputable def xSeq (m n : EX) : EX := fun E => m E >>= fun o => match o with
  | .nx E' => n E'
  | o => .ok o
noncomputable def xNil : EX := fun E => .ok (.nx E)
noncomputable def xRet (m : EV) : EX := fun E => m E >>= fun d => .ok (.rt d)
noncomputable def xRetN : EX := fun _ => .ok (.rt .non)
noncomputable def xSet (i : Nat) (m : EV) : EX := fun E => m E >>= fun d => .ok (.nx (E.set i (.fz d)))
noncomputable def xOwn (i : Nat) (m : EV) : EX := fun E => m E >>= fun d => .ok (.nx (E.set i (.ow d)))
noncomputable def xDo (m : EV) : EX := fun E => m E >>= fun _ => .ok (.nx E)
noncomputable def xIf (t : Ev → R Bool) (a b : EX) : EX := fun E => t E >>= fun k => if k = true then a E else b E
noncomputable def xFrz (i : Nat) (m : EX) : EX := fun E => m (frz i E)
noncomputable def xApp (i : Nat) (m : EV) : EX := fun E => match E[i]? with
  | some (.ow (.lst ds)) => m E >>= fun d => if ds.length < 1000000 then .ok (.nx (E.set i (.ow (.lst (ds ++ [d]))))) else .no
  | _ => .no
noncomputable def xExt (i : Nat) (m : EV) : EX := fun E => match E[i]? with
  | some (.ow (.lst ds)) => m E >>= fun d => match d with
    | .lst es => if ds.length + es.length < 1000000 then .ok (.nx (E.set i (.ow (.lst (ds ++ es))))) else .no
    | _ => .no
  | _ => .no
noncomputable def xPop (i j : Nat) : EX := fun E => match E[i]? with
  | some (.ow (.lst ds)) => match ds[ds.length - 1]? with
    | some d => .ok (.nx ((E.set i (.ow (.lst ds.dropLast))).set j (.fz d)))
    | none => .no
  | _ => .no
noncomputable def xDput (i : Nat) (mk mv : EV) : EX := fun E => match E[i]? with
  | some (.ow (.dic kvs)) => mv E >>= fun d => mk E >>= fun k => match keyOf k with
    | some ks => if kvs.length < 1000000 then .ok (.nx (E.set i (.ow (.dic (dput kvs ks d))))) else .no
    | none => .no
  | _ => .no
noncomputable def xLput (i : Nat) (mk mv : EV) : EX := fun E => match E[i]? with
  | some (.ow (.lst ds)) => mv E >>= fun d => mk E >>= fun k => match k with
    | .int n => match ixN ds.length n with
      | some j => .ok (.nx (E.set i (.ow (.lst (ds.set j d)))))
      | none => .no
    | _ => .no
  | _ => .no
section
variable {X : Cx} {G : Fc} {st : Stmt} {rest : List Stmt} {m n : EX} {e : Expr} {me : EV} {pos : Pos}
theorem sb_nil : SB X G [] xNil := pss_nil.imp fun D σ H z0 => z0.elim fun E z0 => z0.elim fun hr f => f σ H hr
theorem sb_cons (h1 : SS X G st m) (h2 : SB X G rest n) : SB X G (st :: rest) (xSeq m n) := (pss_cons h1 h2).imp fun D σ H z0 => z0.elim fun E z0 => z0.elim fun hr f => ⟨E, hr, (Fin.bind f).mono fun o p => by
  cases o with
  | nx E' => exact fun σ' H' r' => ⟨E', r', p⟩
  | bk E' => exact p
  | ct E' => exact p
  | rt d => exact p⟩
theorem sb_one (h1 : SS X G st m) : SB X G [st] m := pss_one h1
theorem tagged {X : Cx} {pins : List (Addr × Obj)} {σ : St} {H : Hp} {s : Shared} {a : Addr} {ws : List (List Key × V)} (I : Inv X pins σ H s) (e : H a = some (.dT ws)) : ∃ o, Inv X pins σ (upd H a (.frz o (.dT ws))) s ∧ NF X a := by
  obtain ⟨z, y, xs, rr, o, es, ep, h1, h2⟩ := (show ObjOk X.prog X.w H s.heap a (.dT ws) from I.hok a _ e)
  exact ⟨o, I.tag e h1⟩
theorem ss_frz (i : Nat) (h : SS X G st m) : SS X G st (xFrz i m) := by
  rintro pins s σ H D I ⟨E, hr, f⟩
  rcases hr.frz (i := i) with r | ⟨a, ws, e, _, r⟩
  · exact h pins s σ H D I ⟨frz i E, r, f⟩
  · obtain ⟨o, I', _⟩ := tagged I e
    exact h pins s σ _ D I' ⟨frz i E, r o, f⟩
theorem ss_ret (he : SF X G e me) : SS X G (.Return (some e) pos) (xRet me) := (ps_ret he).imp fun D σ H ⟨E, hr, f⟩ => ⟨E, hr, (Fin.bind f).mono fun d p v H' s z => p v H' (hr.base.trans s) (z.mono (Same.refl _) fun _ z => .inl z)⟩
theorem ss_set (i : Nat) {x : Str} {pos' : Pos} (he : SF X G e me) (hN : X.N.Nodup) (hi : X.N[i]? = some x := by rfl) (hx : Loc X.env.scope x := by first | exact Or.inl rfl | exact Or.inr rfl) (hs : swapsWith e (some (.Name x pos')) pos.line X.env = pure false := by rfl) (hf : X.fn x = true ∨ X.env.scope.names.lookup x = some .local := by first | exact .inl rfl | exact .inr rfl | assumption) :
    SS X G (.Assign [.Name x pos'] e pos) (xSet i me) := (ps_set hN hi hx he hs hf).imp fun D σ H ⟨E, hr, f⟩ => ⟨E, hr, (Fin.bind f).mono fun d p v H' s z => p _ _ ((hr.same s).setF z)⟩
theorem ss_own (i : Nat) {x : Str} {pos' : Pos} (he : SN X G e me) (hN : X.N.Nodup) (hi : X.N[i]? = some x := by rfl) (hx : Loc X.env.scope x := by first | exact Or.inl rfl | exact Or.inr rfl) (hs : swapsWith e (some (.Name x pos')) pos.line X.env = pure false := by rfl) (hf : X.fn x = true ∨ X.env.scope.names.lookup x = some .local := by first | exact .inl rfl | exact .inr rfl | assumption) :
    SS X G (.Assign [.Name x pos'] e pos) (xOwn i me) := (ps_set hN hi hx he hs hf).imp fun D σ H ⟨E, hr, f⟩ => ⟨E, hr, (Fin.bind f).mono fun d p a H' s n z => p _ _ (hr.setO s n z)⟩
theorem ss_expr (he : SE X G e me) (hs : swapsWith e none pos.line X.env = pure false := by rfl) : SS X G (.Expr e pos) (xDo me) := (ps_expr he hs).imp fun D σ H ⟨E, hr, f⟩ => ⟨E, hr, (Fin.bind f).mono fun d p v H' s z => p σ H' (hr.same s)⟩
theorem ss_if {c : Expr} {a b : List Stmt} {tc : Ev → R Bool} {ma mb : EX} (hc : ST X G c tc) (ha : SB X G a ma) (hb : SB X G b mb) : SS X G (.If c a b pos) (xIf tc ma mb) := (ps_if hc ha hb).imp fun D σ H z0 => z0.elim fun E z0 => z0.elim fun hr f => ⟨E, hr, (Fin.bind f).mono fun k p H' s => by
  cases k with
  | true => exact ⟨E, hr.same s, p⟩
  | false => exact ⟨E, hr.same s, p⟩⟩
noncomputable def xNever : EX := fun _ => .no
theorem ss_never : SS X G st xNever := ps_never.imp fun D σ H z0 => z0.elim fun E z0 => z0.elim fun hr f => f

theorem own_slot {K : PySem.W.Frag} {E : Ev} {σ : St} {H : Hp} {i : Nat} {ds : List D} (r : Rel K G E σ H) (h : E[i]? = some (.ow (.lst ds))) : ∃ a vs, σ[i]? = some (some (.ref a)) ∧ H a = some (.lst vs) ∧ Rps K H (Ow G.pr E σ) ds vs ∧ Ow G.pr E σ a := by
  obtain ⟨a, e1, ⟨vs, e2, e3⟩, _⟩ := r.ow i _ h
  exact ⟨a, vs, e1, e2, e3, .inr ⟨i, _, h, e1⟩⟩
theorem own_slotD {K : PySem.W.Frag} {E : Ev} {σ : St} {H : Hp} {i : Nat} {ds : List (List Int × D)} (r : Rel K G E σ H) (h : E[i]? = some (.ow (.dic ds))) : ∃ a vs, σ[i]? = some (some (.ref a)) ∧ H a = some (.dT vs) ∧ Rpk K H (Ow G.pr E σ) ds vs ∧ Ow G.pr E σ a := by
  obtain ⟨a, e1, ⟨vs, e2, e3⟩, _⟩ := r.ow i _ h
  exact ⟨a, vs, e1, e2, e3, .inr ⟨i, _, h, e1⟩⟩
theorem pe_append {o e : Expr} {to te : TE} {apos cpos : Pos} (ho : PE X o to) (he : PE X e te) (hbase : attributeBase o "append" X.env (eval o X.env) = eval o X.env := by rfl)
    (hfew : ((backTo cpos (starEach [e] X.env)).all (fun x => !x.1) && (backToKw cpos (keywordEach [] X.env)).all (fun x => x.1.isSome) && decide ([e].length + ([] : List Keyword).length + (if ([] : List Keyword).isEmpty then 0 else 1) < 30)) = true := by rfl)
    (hline : (apos.endLine == cpos.line) = true := by rfl) (hs : starEach [e] X.env = (false, eval e X.env) :: starEach [] X.env := by rfl) : PE X (.Call (.Attribute o "append" apos) [e] [] cpos) (tBM X.K "list" rAppend to (tCons te tNil)) :=
  pe_bm PySem.F.plainAttrs_list PySem.F.slot_list_append PySem.F.type_list_append mt_append ho (pa_cons he pa_nil hs) hbase hfew hline hs
theorem pe_extend {o e : Expr} {to te : TE} {apos cpos : Pos} (ho : PE X o to) (he : PE X e te) (hbase : attributeBase o "extend" X.env (eval o X.env) = eval o X.env := by rfl)
    (hfew : ((backTo cpos (starEach [e] X.env)).all (fun x => !x.1) && (backToKw cpos (keywordEach [] X.env)).all (fun x => x.1.isSome) && decide ([e].length + ([] : List Keyword).length + (if ([] : List Keyword).isEmpty then 0 else 1) < 30)) = true := by rfl)
    (hline : (apos.endLine == cpos.line) = true := by rfl) (hs : starEach [e] X.env = (false, eval e X.env) :: starEach [] X.env := by rfl) : PE X (.Call (.Attribute o "extend" apos) [e] [] cpos) (tBM X.K "list" rExtend to (tCons te tNil)) :=
  pe_bm PySem.F.plainAttrs_list PySem.F.slot_list_extend PySem.F.type_list_extend mt_extend ho (pa_cons he pa_nil hs) hbase hfew hline hs
theorem ss_app (i : Nat) {x : Str} {p apos cpos : Pos} (he : SF X G e me) (hN : X.N[i]? = some x := by rfl) (hv : Vis X.env.scope x := by first | exact Or.inl rfl | exact Or.inr (Or.inl rfl) | exact Or.inr (Or.inr rfl)) (hd : (x == ("__debug__" : Str)) = false := by decide) (hcd : (x == ("__classdict__" : Str)) = false := by decide)
    (hfew : ((backTo cpos (starEach [e] X.env)).all (fun x => !x.1) && (backToKw cpos (keywordEach [] X.env)).all (fun x => x.1.isSome) && decide ([e].length + ([] : List Keyword).length + (if ([] : List Keyword).isEmpty then 0 else 1) < 30)) = true := by rfl)
    (hline : (apos.endLine == cpos.line) = true := by rfl) (hs : starEach [e] X.env = (false, eval e X.env) :: starEach [] X.env := by rfl)
    (hs2 : swapsWith (.Call (.Attribute (.Name x p) "append" apos) [e] [] cpos) none pos.line X.env = pure false := by rfl) : SS X G (.Expr (.Call (.Attribute (.Name x p) "append" apos) [e] [] cpos) pos) (xApp i me) :=
  (ps_expr (pe_append (pe_var hN hv hd hcd) he rfl hfew hline hs) hs2).imp fun D σ H z0 => z0.elim fun E z0 => z0.elim fun hr f => by
    unfold xApp at f
    split at f
    · rename_i ds hi
      obtain ⟨a, vs, e1, e2, e3, e4⟩ := own_slot hr hi
      refine ⟨_, e1, .inl ⟨rfl, vs, SqL.of e2⟩, ⟨E, hr, (Fin.bind f).mono fun d p v H' s z => ?_⟩⟩
      split at p
      · rename_i hl
        have hr' := hr.same s
        refine ⟨a, vs, v, rfl, rfl, s _ _ e2, by rw [e3.length, sizeLine_eq]; omega, p _ _ (hr'.write hi e1 ⟨_, upd_same, ?_⟩)⟩
        exact Rps.write e4 ((e3.mono s fun _ z => z).append (Rps.cons z Rps.nil))
      · exact p.elim
    · exact f.elim
theorem ss_ext (i : Nat) {x : Str} {p apos cpos : Pos} (he : SF X G e me) (hN : X.N[i]? = some x := by rfl) (hv : Vis X.env.scope x := by first | exact Or.inl rfl | exact Or.inr (Or.inl rfl) | exact Or.inr (Or.inr rfl)) (hd : (x == ("__debug__" : Str)) = false := by decide) (hcd : (x == ("__classdict__" : Str)) = false := by decide)
    (hfew : ((backTo cpos (starEach [e] X.env)).all (fun x => !x.1) && (backToKw cpos (keywordEach [] X.env)).all (fun x => x.1.isSome) && decide ([e].length + ([] : List Keyword).length + (if ([] : List Keyword).isEmpty then 0 else 1) < 30)) = true := by rfl)
    (hline : (apos.endLine == cpos.line) = true := by rfl) (hs : starEach [e] X.env = (false, eval e X.env) :: starEach [] X.env := by rfl)
    (hs2 : swapsWith (.Call (.Attribute (.Name x p) "extend" apos) [e] [] cpos) none pos.line X.env = pure false := by rfl) : SS X G (.Expr (.Call (.Attribute (.Name x p) "extend" apos) [e] [] cpos) pos) (xExt i me) :=
  (ps_expr (pe_extend (pe_var hN hv hd hcd) he rfl hfew hline hs) hs2).imp fun D σ H z0 => z0.elim fun E z0 => z0.elim fun hr f => by
    unfold xExt at f
    split at f
    · rename_i ds hi
      obtain ⟨a, vs, e1, e2, e3, e4⟩ := own_slot hr hi
      refine ⟨_, e1, .inl ⟨rfl, vs, SqL.of e2⟩, ⟨E, hr, (Fin.bind f).mono fun d p v H' s z => ?_⟩⟩
      cases d with
      | lst es =>
        dsimp only at p
        split at p
        · rename_i hl
          have hr' := hr.same s
          unfold Rp at z
          obtain ⟨b, ws, rfl, nb, hb, rb⟩ := z
          refine ⟨a, b, vs, ws, rfl, rfl, s _ _ e2, hb, by rw [e3.length, rb.length, sizeLine_eq]; omega, p _ _ (hr'.write hi e1 ⟨_, upd_same, ?_⟩)⟩
          exact Rps.write e4 ((e3.mono s fun _ z => z).append rb)
        · exact p.elim
      | _ => exact p.elim
    · exact f.elim
theorem ss_dput (i : Nat) {x : Str} {k v : Expr} {mk mv : EV} {p pos' : Pos} (hu : X.A.units + 1 < cLine) (hk : SE X G k mk) (hv : SF X G v mv) (hN : X.N[i]? = some x := by rfl) (hvs : Vis X.env.scope x := by first | exact Or.inl rfl | exact Or.inr (Or.inl rfl) | exact Or.inr (Or.inr rfl)) (hd : (x == ("__debug__" : Str)) = false := by decide) (hcd : (x == ("__classdict__" : Str)) = false := by decide)
    (hs : swapsWith v (some (.Subscript (.Name x p) k pos')) pos.line X.env = pure false := by rfl) : SS X G (.Assign [.Subscript (.Name x p) k pos'] v pos) (xDput i mk mv) :=
  (ps_dput hu (pe_var hN hvs hd hcd) hk hv hs).imp fun D σ H z0 => z0.elim fun E z0 => z0.elim fun hr f => by
    unfold xDput at f
    split at f
    · rename_i kvs hi
      obtain ⟨a, vs, e1, e2, e3, e4⟩ := own_slotD hr hi
      refine ⟨E, hr, (Fin.bind f).mono fun d f v H1 s1 z1 => ⟨_, e1, ⟨E, hr.same s1, (Fin.bind f).mono fun k f w H2 s2 z2 => ?_⟩⟩⟩
      cases ek : keyOf k with
      | none => rw [ek] at f; exact f.elim
      | some ks =>
        rw [ek] at f
        dsimp only at f
        split at f
        · rename_i hl
          obtain ⟨b, rfl, hb⟩ := key_of' ek z2
          have s := s1.trans s2
          have e2' := s _ _ e2
          refine ⟨a, _, rfl, DPut.t e2' hb (by rw [e3.length, sizeLine_eq]; omega), f _ _ ((hr.same s).write hi e1 ⟨_, upd_same, ?_⟩)⟩
          exact Rpk.write e4 (Rpk.put (e3.mono s fun _ z => z) (z1.mono s2 fun _ z => z))
        · exact f.elim
    · exact f.elim
end
end M

set_option Elab.async false
set_option linter.all false
set_option maxRecDepth 100000
namespace M
open PySem PySem.Spec PyProof.Rows L2

structure Gd (X : Cx) : Prop where
  calm : X.calm = true
  po : PassesOwn (model X.prog X.w) X.A X.env X.xe
  nd : X.N.Nodup
  un : X.A.units + 40 < cLine

noncomputable def SlotOwn (E : Ev) (σ : St) (a : Addr) : Prop := ∃ (i : Nat) (d : D), E[i]? = some (.ow d) ∧ σ[i]? = some (some (.ref a))
open Classical in
noncomputable def Fc.lock (G : Fc) (E : Ev) (σ : St) (H : Hp) : Fc := { h0 := fun a => if SlotOwn E σ a then none else H a, pr := G.pr, xc := G.xc }
section
variable {K : PySem.W.Frag} {G : Fc} {E : Ev} {σ : St} {H H' : Hp}
theorem lock_at {a : Addr} (h : ¬ SlotOwn E σ a) : (G.lock E σ H).h0 a = H a := by unfold Fc.lock; simp [h]
theorem Rel.noOwn (r : Rel K G E σ H) {a : Addr} {o : HO} (h : G.h0 a = some o) : ¬ SlotOwn E σ a := by
  rintro ⟨i, d, h1, h2⟩
  obtain ⟨b, e1, _, e3⟩ := r.ow i d h1
  rw [h2] at e1; cases e1
  rw [h] at e3; cases e3
theorem Rel.sub (r : Rel K G E σ H) : Same G.h0 (G.lock E σ H).h0 := fun a o h => by rw [lock_at (r.noOwn h)]; exact r.base _ _ h
theorem Rel.lock (r : Rel K G E σ H) : Rel K (G.lock E σ H) E σ H where
  len := r.len
  fz := r.fz
  ow := fun i d h => by
    obtain ⟨a, e1, e2, e3⟩ := r.ow i d h
    refine ⟨a, e1, e2, ?_⟩
    have : SlotOwn E σ a := ⟨i, d, h, e1⟩
    unfold Fc.lock; simp [this]
  ne := r.ne
  base := fun a o h => by
    unfold Fc.lock at h
    dsimp only at h
    split at h
    · cases h
    · exact h
  prt := fun a h => by
    obtain ⟨o, e, n⟩ := r.prt a h
    exact ⟨_, by rw [lock_at (r.noOwn e)]; exact r.base _ _ e, n⟩
theorem Rel.weak {G' : Fc} (r : Rel K G' E σ H) (s : Same G.h0 G'.h0) (e : G'.pr = G.pr) (p : ∀ a, G.pr a → ∃ o, G.h0 a = some o ∧ NoTup o) : Rel K G E σ H where
  len := r.len
  fz := by rw [← e]; exact r.fz
  ow := fun i d h => by
    rw [← e]
    obtain ⟨a, e1, e2, e3⟩ := r.ow i d h
    refine ⟨a, e1, e2, ?_⟩
    cases q : G.h0 a with
    | none => rfl
    | some o => rw [s _ _ q] at e3; cases e3
  ne := r.ne
  base := s.trans r.base
  prt := p
end
structure Fc.Le (G G' : Fc) : Prop where
  h0 : Same G.h0 G'.h0
  pr : ∀ a o, G.h0 a = some o → G'.pr a → G.pr a
  sub : ∀ a, G.pr a → G'.pr a
theorem Fc.Le.refl (G : Fc) : G.Le G := ⟨Same.refl _, fun _ _ _ h => h, fun _ h => h⟩
theorem locked {K : PySem.W.Frag} {G G' : Fc} {E E' : Ev} {σ σ' : St} {H H' : Hp} (le : (G.lock E σ H).Le G') (r : Rel K G' E' σ' H') : ∀ a o, ¬ Ow G.pr E σ a → H a = some o → H' a = some o ∧ ¬ Ow G'.pr E' σ' a := fun a o no h => by
  have hl : (G.lock E σ H).h0 a = some o := by rw [lock_at fun z => no (.inr z)]; exact h
  have hl' := le.h0 _ _ hl
  refine ⟨r.base _ _ hl', fun z => ?_⟩
  rcases z with z | ⟨i, d, h1, h2⟩
  · exact no (.inl (le.pr _ _ hl z))
  · obtain ⟨b, e1, _, e3⟩ := r.ow i d h1
    rw [h2] at e1; cases e1
    rw [hl'] at e3; cases e3
noncomputable def ItOk (K : PySem.W.Frag) (G0 : Fc) (J : It) (ds : List D) : Prop :=
  ∀ (G : Fc) (E : Ev) (σ : St) (H : Hp), G0.Le G → Rel K G E σ H → J.stop ds.length H ∧ ∀ (i : Nat) (d : D), ds[i]? = some d → J.go i H ∧ ∀ x H', J.yld i H x H' → Same H H' ∧ Rp K H' (Ow G.pr E σ) d x
noncomputable def SI (X : Cx) (G : Fc) (tg iter : Expr) (m : Ev → R (List D)) : Prop :=
  PI X tg iter fun σ H Rr => ∃ E, Rel X.K G E σ H ∧ Fin (m E) (fun ds => ∀ J H1, Same H H1 → ItOk X.K (G.lock E σ H1) J ds → Rr J H1) G.xc
noncomputable def SG (X : Cx) (tg : Expr) (ts : List Nat) (set : D → Ev → Option Ev) : Prop :=
  ∃ g, PG X tg g ∧ ∀ (G : Fc) (E E' : Ev) (σ : St) (H : Hp) (d : D) (v : V) (Q : St → Hp → Prop), Rel X.K G E σ H → Rp X.K H (Ow G.pr E σ) d v → set d E = some E' → (∀ σ', (∀ j, j ∉ ts → σ'[j]? = σ[j]?) → Rel X.K G E' σ' H → Q σ' H) → g v σ H Q
noncomputable def gN (i : Nat) : D → Ev → Option Ev := fun d E => some (E.set i (.fz d))
noncomputable def gT (i j : Nat) : D → Ev → Option Ev := fun d E => match d with
  | .tup [a, b] => some ((E.set i (.fz a)).set j (.fz b))
  | _ => none
noncomputable def forL (set : D → Ev → Option Ev) (b : EX) : List D → Ev → R Out
  | [], E => .ok (.nx E)
  | d :: ds, E => match set d E with
    | none => .no
    | some E1 => b E1 >>= fun o => match o with
      | .nx E2 => forL set b ds E2
      | .ct E2 => forL set b ds E2
      | .bk E2 => .ok (.nx E2)
      | .rt d => .ok (.rt d)
noncomputable def xFor (mi : Ev → R (List D)) (set : D → Ev → Option Ev) (b : EX) : EX := fun E => mi E >>= fun ds => forL set b ds E
noncomputable def whlN (c : Ev → R Bool) (b : EX) : Nat → Ev → R Out
  | 0, _ => .no
  | n + 1, E => c E >>= fun k => if k = true then (b E >>= fun o => match o with
      | .nx E2 => whlN c b n E2
      | .ct E2 => whlN c b n E2
      | .bk E2 => .ok (.nx E2)
      | .rt d => .ok (.rt d)) else .ok (.nx E)
section
variable {X : Cx} {G : Fc} {tg iter : Expr} {body : List Stmt} {pos : Pos} {mi : Ev → R (List D)} {set : D → Ev → Option Ev} {mb : EX}
theorem sg_name (gd : Gd X) (i : Nat) {x : Str} {pos : Pos} (hi : X.N[i]? = some x := by rfl) (hx : Loc X.env.scope x := by first | exact Or.inl rfl | exact Or.inr rfl) (hf : X.fn x = true ∨ X.env.scope.names.lookup x = some .local := by first | exact .inl rfl | exact .inr rfl | assumption) : SG X (.Name x pos) [i] (gN i) :=
  ⟨_, pg_name gd.nd hi hx hf, fun G E E' σ H d v Q r p e k => by
    unfold gN at e; cases e
    exact k _ (fun j hj => set_ne (by simpa using hj)) (r.setF p)⟩
theorem sg_two (gd : Gd X) (i j : Nat) {x y : Str} {px py pos : Pos} {kk : Nat} (hi : X.N[i]? = some x := by rfl) (hj : X.N[j]? = some y := by rfl) (hx : Loc X.env.scope x := by first | exact Or.inl rfl | exact Or.inr rfl) (hy : Loc X.env.scope y := by first | exact Or.inl rfl | exact Or.inr rfl)
    (hf : X.fn x = true ∨ X.env.scope.names.lookup x = some .local := by first | exact .inl rfl | exact .inr rfl | assumption) (hf' : X.fn y = true ∨ X.env.scope.names.lookup y = some .local := by first | exact .inl rfl | exact .inr rfl | assumption)
    (h1 : (assignEach [Expr.Name x px, .Name y py] X.env).map (·.2) = assign (.Name x px) X.env :: (assignEach [.Name y py] X.env).map (·.2) := by rfl) (h2 : (assignEach [Expr.Name y py] X.env).map (·.2) = assign (.Name y py) X.env :: (assignEach [] X.env).map (·.2) := by rfl)
    (hn : (assignEach [Expr.Name x px, .Name y py] X.env).length = 2 := by rfl) (hst : (assignEach [Expr.Name x px, .Name y py] X.env).findIdx? (·.1) = none := by rfl) : SG X (.Tuple [.Name x px, .Name y py] kk pos) [i, j] (gT i j) :=
  ⟨_, pg_tup gd.calm (pgs_cons (pg_name gd.nd hi hx hf) (pgs_cons (pg_name gd.nd hj hy hf') pgs_nil h2) h1) hn hst, fun G E E' σ H d v Q r p e k => by
    unfold gT at e
    split at e
    · rename_i a b
      cases e
      unfold Rp at p
      obtain ⟨l, vs, rfl, no, hl, rs⟩ := p
      unfold Rps at rs
      obtain ⟨v1, r1, rfl, p1, rs⟩ := rs
      unfold Rps at rs
      obtain ⟨v2, r2, rfl, p2, rs⟩ := rs
      unfold Rps at rs
      subst rs
      refine ⟨l, [v1, v2], rfl, SqT.of hl, rfl, v1, [v2], rfl, v2, [], rfl, rfl, k _ (fun k hk => by
        simp only [List.mem_cons, not_or] at hk
        rw [set_ne hk.2.1, set_ne hk.1]) ((r.setF p1).setF (p2.mono (Same.refl _) fun _ z => z.setF))⟩
    · cases e⟩
theorem ss_for {ts : List Nat} (gd : Gd X) (hi : SI X G tg iter mi) (hg : SG X tg ts set) (hb : ∀ G', G'.xc = G.xc → SB X G' body mb) (hs : ∀ x, foldedSetIterable iter X.env x = pure x := by intro _; rfl) : SS X G (.For tg iter body [] pos) (xFor mi set mb) := by
  obtain ⟨g, hg, hset⟩ := hg
  rintro pins s σ0 H0 Dn I ⟨E0, hr0, f0⟩
  -- the body's reading hangs on the lock: choose it within the rule
  have key : ∀ (G' : Fc), G'.xc = G.xc → PS X (.For tg iter body [] pos) (tFor (fun σ H Rr => ∃ E, Rel X.K G E σ H ∧ Fin (mi E) (fun ds => ∀ J H1, Same H H1 → ItOk X.K (G.lock E σ H1) J ds → Rr J H1) G.xc) g
      (fun Dn σ H => ∃ G', G'.xc = G.xc ∧ ∃ E, Rel X.K G' E σ H ∧ Fin (mb E) (OutOk X.K G' Dn) G'.xc)) := fun G' hG' =>
    ps_for gd.po gd.calm hi hg (fun pins s σ H D I ⟨G', e, h⟩ => hb G' e pins s σ H D I h) hs
  refine key G rfl pins s σ0 H0 Dn I ⟨E0, hr0, (Fin.bind f0).mono fun ds f J H1 s1 it => ?_⟩
  have hr1 := hr0.same s1
  have hsub := hr1.sub
  have wk : ∀ {E : Ev} {σ : St} {H : Hp}, Rel X.K (G.lock E0 σ0 H1) E σ H → Rel X.K G E σ H := fun r => r.weak hsub rfl hr0.prt
  refine ⟨fun i m σ H => ∃ E, Rel X.K (G.lock E0 σ0 H1) E σ H ∧ i ≤ ds.length ∧ m = ds.length - i ∧ Fin (forL set mb (ds.drop i) E) (OutOk X.K G Dn) G.xc, ⟨ds.length, E0, hr1.lock, Nat.zero_le _, by simp, by simpa using f⟩, ?_⟩
  rintro i m σ H ⟨E, r, hi', rfl, f⟩
  obtain ⟨h1, h2⟩ := it _ E σ H (Fc.Le.refl _) r
  by_cases hlt : i < ds.length
  · obtain ⟨go, yl⟩ := h2 i ds[i] (by simp [hlt])
    rw [List.drop_eq_getElem_cons hlt] at f
    unfold forL at f
    cases hse : set ds[i] E with
    | none => rw [hse] at f; exact f.elim
    | some E1 =>
      rw [hse] at f
      refine .inr ⟨go, fun σ' H' => ∃ E2, Rel X.K (G.lock E0 σ0 H1) E2 σ' H' ∧ Fin (forL set mb (ds.drop (i + 1)) E2) (OutOk X.K G Dn) G.xc, fun σ' H' ⟨E2, r2, f2⟩ => ⟨ds.length - (i + 1), by omega, E2, r2, hlt, rfl, f2⟩, fun x H' y => ?_⟩
      obtain ⟨s2, px⟩ := yl x H' y
      refine hset _ E E1 σ H' ds[i] x _ (r.same s2) px hse fun σ' _ r' => ⟨G.lock E0 σ0 H1, rfl, E1, r', (Fin.bind f).mono fun o p => ?_⟩
      cases o with
      | nx E2 => exact fun σ2 H2 r2 => ⟨E2, r2, p⟩
      | ct E2 => exact fun σ2 H2 r2 => ⟨E2, r2, p⟩
      | bk E2 => exact fun σ2 H2 r2 => p σ2 H2 (wk r2)
      | rt d => exact fun v H2 s2 z => p v H2 (hsub.trans s2) z
  · have e : i = ds.length := by omega
    subst e
    rw [List.drop_length] at f
    exact .inl ⟨h1, f σ H (wk r)⟩
noncomputable def iD (m : EV) : Ev → R (List D) := fun E => m E >>= fun d => match d with
  | .lst ds => .ok ds
  | _ => .no
noncomputable def iT (m : EV) : Ev → R (List D) := fun E => m E >>= fun d => match d with
  | .tup ds => .ok ds
  | _ => .no
noncomputable def iR1 (m : EV) : Ev → R (List D) := fun E => m E >>= fun d => match d with
  | .int n => if n.natAbs < 1000000 then .ok ((List.range n.toNat).map fun (k : Nat) => D.int (k : Int)) else .no
  | _ => .no
noncomputable def iR2 (m n : EV) : Ev → R (List D) := fun E => m E >>= fun d => n E >>= fun e => match d, e with
  | .int a, .int b => if a.natAbs < 1000000 ∧ b.natAbs < 1000000 then .ok ((List.range (b - a).toNat).map fun (k : Nat) => D.int (a + (k : Int))) else .no
  | _, _ => .no
theorem _root_.L2.PI.imp {X : Cx} {tg e : Expr} {t t' : TI} (h : PI X tg e t) (i : ∀ σ H Q, t' σ H Q → t σ H Q) : PI X tg e t' := fun pins s σ H Q I q => h pins s σ H Q I (i σ H Q q)
theorem si_list {m : EV} (h : SF X G iter m) : SI X G tg iter (iD m) := (pi_list h).imp fun σ H Q z0 => z0.elim fun E z0 => z0.elim fun hr f => ⟨E, hr, (Fin.bind f).mono fun d p v H1 s1 z => by
  cases d with
  | lst ds =>
    have z' := z
    unfold Rp at z
    obtain ⟨a, vs, rfl, no, ha, rs⟩ := z
    refine ⟨a, rfl, ⟨vs, SqL.of ha⟩, p _ H1 s1 fun G' E' σ' H' le r' => ?_⟩
    have hl' := (locked le r' _ _ no ha).1
    refine ⟨⟨vs, SqL.of hl', by rw [rs.length]; exact Nat.le_refl _⟩, fun i d hd => ?_⟩
    obtain ⟨v, hv, pv⟩ := rs.get hd
    refine ⟨⟨vs, v, SqL.of hl', hv⟩, ?_⟩
    rintro x H'' ⟨e, y⟩
    subst e
    refine ⟨Same.refl _, ?_⟩
    have := y vs (SqL.of hl')
    rw [hv] at this; cases this
    exact pv.move (locked le r')
  | _ => exact p.elim⟩
theorem it_range {K : PySem.W.Frag} {G : Fc} (lo : Int) (n : Nat) : ItOk K G (Itr lo n) ((List.range n).map fun (k : Nat) => D.int (lo + (k : Int))) := fun G' E σ H le r => by
  refine ⟨by simp [Itr], fun i d hd => ?_⟩
  rw [List.getElem?_map] at hd
  have hi : i < n := by
    by_cases h : i < n
    · exact h
    · rw [List.getElem?_eq_none (by simpa using h)] at hd; cases hd
  rw [List.getElem?_range hi] at hd
  cases hd
  refine ⟨hi, fun x H' y => ?_⟩
  obtain ⟨rfl, rfl⟩ := y
  exact ⟨Same.refl _, by unfold Rp; rfl⟩
theorem si_range1 {a : Expr} {m : EV} {p pos : Pos} (hg : Gl X "range") (hm : X.mg "range" = none) (ha : SF X G a m) (hs : starEach [a] X.env = [(false, eval a X.env)] := by rfl) : SI X G tg (.Call (.Name "range" p) [a] [] pos) (iR1 m) :=
  (pi_range1 hg hm (pa_cons ha pa_nil hs) hs).imp fun σ H Q z0 => z0.elim fun E z0 => z0.elim fun hr f => ⟨E, hr, (Fin.bind f).mono fun d p v H1 s1 z => by
    cases d with
    | int n =>
      dsimp only at p
      split at p
      · rename_i hn
        unfold Rp at z
        subst z
        refine ⟨n, rfl, by omega (config := {}), by omega (config := {}), p _ H1 s1 ?_⟩
        have := it_range (K := X.K) (G := G.lock E σ H1) 0 n.toNat
        simp only [Int.zero_add] at this
        exact this
      · exact p.elim
    | _ => exact p.elim⟩
end

noncomputable def spD (K : PySem.W.Frag) (n : Nat) (den : List D → R D) : Sp := fun vs H Q _ => vs.length = n ∧ ∃ (pr : Addr → Prop) (ds : List D), (∀ a, pr a → ∃ o, H a = some o ∧ NoTup o) ∧ Rps K H pr ds vs ∧ Fin (den ds) (fun d => ∀ v H', Same H H' → Rp K H' pr d v → Q v H') fun _ => False
noncomputable def ended (r : R Out) : R D := r >>= fun o => match o with
  | .rt d => .ok d
  | .nx _ => .ok .non
  | _ => .no
noncomputable def startE (n : Nat) (ds : List D) : Ev := ds.map Sl.fz ++ List.replicate (n - ds.length) .un
noncomputable def den (n : Nat) (m : EX) : List D → R D := fun ds => ended (m (startE n ds))
theorem rel_start {K : PySem.W.Frag} {H : Hp} {pr : Addr → Prop} {xc : Nat → Prop} {N : List Str} {ds : List D} {vs : List V} (hp : ∀ a, pr a → ∃ o, H a = some o ∧ NoTup o) (r : Rps K H pr ds vs) : Rel K ⟨H, pr, xc⟩ (startE N.length ds) (L2.start N vs) H := by
  have none_ow : ∀ (i : Nat) d, (startE N.length ds)[i]? ≠ some (.ow d) := fun i d h => by
    unfold startE at h
    rcases Nat.lt_or_ge i (ds.map Sl.fz).length with hi | hi
    · rw [List.getElem?_append_left hi, List.getElem?_map] at h
      cases q : ds[i]? with
      | none => rw [q] at h; cases h
      | some x => rw [q] at h; cases h
    · rw [List.getElem?_append_right hi, List.getElem?_replicate] at h
      split at h <;> cases h
  refine ⟨?_, fun i d h => ?_, fun i d h => absurd h (none_ow i d), fun i j d e a h => absurd h (none_ow i d), Same.refl _, hp⟩
  · unfold startE L2.start
    simp [r.length]
  · unfold startE at h
    rcases Nat.lt_or_ge i (ds.map Sl.fz).length with hi | hi
    · rw [List.getElem?_append_left hi, List.getElem?_map] at h
      cases q : ds[i]? with
      | none => rw [q] at h; cases h
      | some x =>
        rw [q] at h; cases h
        obtain ⟨v, e, p⟩ := r.get q
        refine ⟨v, ?_, p.mono (Same.refl _) fun a z => ?_⟩
        · unfold L2.start
          rw [List.getElem?_append_left (by rw [List.length_map, r.length]; simpa using hi), List.getElem?_map, e]; rfl
        · rcases z with z | ⟨j, d', z, _⟩
          · exact z
          · exact absurd z (none_ow j d')
    · rw [List.getElem?_append_right hi, List.getElem?_replicate] at h
      split at h <;> cases h
noncomputable abbrev bx (P : Program) (w : World) (K : PySem.W.Frag) (mg : Str → Option Value) (base : Heap) (N : List Str) (qual : Str) (sc : Scope) (f : Addr) (cdv : Value) (A : Around) (outer : List Env) (s : Shared) (H : Hp) (E : XK) : Cx := (cxOf CX0 P w K mg base N qual sc f cdv A outer s H E).nox
section
variable {P : Program} {w : World} {K : PySem.W.Frag} {mg : Str → Option Value} {base : Heap} {x qual : Str} {st : Stmt} {f : Addr} {fd : FuncData} {N ps : List Str} {k : Nat} {m : EX}
end
section
variable {X : Cx} {G : Fc} {k : Nat} {f : Addr} {fd : FuncData} {ps : List Str} {dn : List D → R D} {x : Str} {p pos : Pos} {e : Expr} {es : List Expr} {ma : Ev → R (List D)}
noncomputable def eCall (n : Nat) (dn : List D → R D) (ma : Ev → R (List D)) : EV := fun E => ma E >>= fun ds => if ds.length = n then dn ds else .no
theorem sf_call {n : Nat} (F : FnOk X.prog X.w X.K X.mg X.base CX0 k f fd ps (spD X.K n dn)) (hx : ∀ c, ¬ G.xc c) (hr : Room k X.A) (hg : Gl X x) (hm : X.mg x = some (.ref f)) (hk : PySem.W.keepIn X.K (.ref f) = true) (hb : Binds X.K fd ps [])
    (ha : SA X G (e :: es) ma) (hdb : (x == ("__debug__" : Str)) = false := by decide) (he : starEach (e :: es) X.env = (false, eval e X.env) :: starEach es X.env := by rfl) (hpl : (backTo pos (starEach es X.env)).any (·.1) = false := by rfl) :
    SF X G (.Call (.Name x p) (e :: es) [] pos) (eCall n dn ma) :=
  (pe_call F hr hg hm hk hb .nil pass0 ha hdb he hpl).imp fun σ H Q z0 => z0.elim fun E z0 => z0.elim fun hr f => ⟨E, hr, (Fin.bind f).mono fun ds p vs H1 s1 rs => by
    split at p
    · rename_i hl
      refine ⟨by rw [List.append_nil, rs.length]; exact hl, Ow G.pr E σ, ds, fun a z => (hr.same s1).owned z, by rw [List.append_nil]; exact rs, ?_⟩
      revert p
      cases dn ds with
      | ok d => exact fun p v H' s z => p v H' (s1.trans s) z
      | er c => exact fun p => hx c p
      | no => exact fun p => p
    · exact p.elim⟩
end
end M

set_option Elab.async false
set_option linter.all false
set_option maxRecDepth 100000
namespace M
open PySem PySem.Spec PyProof.Rows L2

section
variable {prog : Program} {w : World} {A : Around} {R : Result → Shared → Prop} {s : Shared}
theorem compLoop_go {elt target iter : Expr} {ifs : List Expr} {scope : Scope} {pos : Pos} {it acc : Value} {env : Env} (I : Nat → Shared → Prop)
    (turn : ∀ n s, I n s → wpAny (model prog w) A (pyNext it) (fun r s₁ => match r with
      | none => R (.ok .next) s₁
      | some v => wpAny (model prog w) A (letOwnedTupleGo target it v) (fun _ s₁' => wpAny (model prog w) A (assign target env v) (fun _ s₂ =>
          wpAny (model prog w) A (forIn ifs true fun c r => if r = true then do let ok ← isTrue c env (eval c env); pure (ForInStep.yield ok) else pure (ForInStep.yield r)) (fun ok s₃ =>
            if ok = true then wpAny (model prog w) A (eval elt env) (fun x s₄ =>
              wpAny (model prog w) A (call (.builtin "list.append") [acc, x]) (fun _ s₅ => ∃ m, m < n ∧ I m s₅) (fun _ _ => False) s₄) (fun _ _ => False) s₃
            else ∃ m, m < n ∧ I m s₃) (fun _ _ => False) s₂) (fun _ _ => False) s₁') (fun _ _ => False) s₁) (fun _ _ => False) s)
    (n : Nat) (h : I n s) : codeAny (model prog w) A (.compLoop (.ListComp elt [⟨target, iter, ifs, 0⟩] scope pos) 0 it acc env) R s := by
  refine codeAny_loop rfl I (fun n s hI => ?_) n h
  show wpAny _ A ((compTurn (.ListComp elt [⟨target, iter, ifs, 0⟩] scope pos) 0 it acc env).onRaise (fun x => do noteFrame x env; theTreesLotGoes x)) _ _ s
  refine wpAny_noted ?_
  rw [compTurn_list]
  refine wpAny_bind (wpAny_standAt (wpAny_bind (wpAny_mono (turn n s hI) (fun r s₁ h₁ => ?_) fun _ _ h' => h'.elim)))
  cases r with
  | none => exact wpAny_pure h₁
  | some v =>
    refine wpAny_bind (wpAny_mono h₁ (fun _ s₁' h₁' => ?_) fun _ _ h' => h'.elim)
    refine wpAny_bind (wpAny_mono h₁' (fun _ s₂ h₂ => wpAny_bind (wpAny_mono h₂ (fun ok s₃ h₃ => ?_) fun _ _ h' => h'.elim)) fun _ _ h' => h'.elim)
    cases ok with
    | false => exact wpAny_pure ⟨rfl, h₃⟩
    | true =>
      exact wpAny_bind (wpAny_bind (wpAny_mono h₃ (fun x s₄ h₄ => wpAny_bind (wpAny_mono h₄ (fun _ s₅ h₅ => wpAny_pure (wpAny_pure ⟨rfl, h₅⟩)) fun _ _ h' => h'.elim)) fun _ _ h' => h'.elim))
end

noncomputable def clOf (names : List (Str × NameKind)) (env : Env) : List (Str × Addr) → List (Str × Addr)
  | cs => names.foldl (fun cs p => if p.2 == .free then match env.cells.lookup p.1 with | some a => (p.1, a) :: cs | none => cs else cs) cs
theorem clOf_cons {env : Env} {cs : List (Str × Addr)} {p : Str × NameKind} {r : List (Str × NameKind)} : clOf (p :: r) env cs = clOf r env (if p.2 == .free then match env.cells.lookup p.1 with | some a => (p.1, a) :: cs | none => cs else cs) := rfl
theorem closure_eq {scope : Scope} {env : Env} (h : ∀ p ∈ scope.names, p.2 = .free → ∃ c, env.cells.lookup p.1 = some c) : closureFor scope env = pure (clOf scope.names env []) := by
  unfold closureFor
  have go : ∀ (l : List (Str × NameKind)) (cs : List (Str × Addr)), (∀ p ∈ l, p.2 = .free → ∃ c, env.cells.lookup p.1 = some c) →
      (forIn l cs fun (x : Str × NameKind) r => (match x with | (name, kind) => if (kind == NameKind.free) = true then do let a ← cellOf env name; pure (ForInStep.yield ((name, a) :: r)) else pure (ForInStep.yield r) : Sem (ForInStep (List (Str × Addr))))) = pure (clOf l env cs) := by
    intro l
    induction l with
    | nil => intro cs _; rfl
    | cons p r ih =>
      intro cs hp
      obtain ⟨name, kind⟩ := p
      rw [List.forIn_cons]
      dsimp only
      by_cases hk : kind = .free
      · subst hk
        obtain ⟨c, hc⟩ := hp _ List.mem_cons_self rfl
        have e1 : cellOf env name = pure c := by unfold cellOf; rw [show env.cells.lookup name = some c from hc]
        simp only [beq_self_eq_true, if_true, e1, pure_bind]
        rw [ih _ fun q hq => hp q (List.mem_cons_of_mem _ hq), clOf_cons]
        simp only [beq_self_eq_true, if_true]
        rw [show env.cells.lookup name = some c from hc]
      · have hb : (kind == NameKind.free) = false := by simpa using hk
        simp only [hb, Bool.false_eq_true, if_false, pure_bind]
        rw [ih _ fun q hq => hp q (List.mem_cons_of_mem _ hq), clOf_cons]
        simp only [hb, Bool.false_eq_true, if_false]
  have := go scope.names [] h
  simp only [bind_pure]
  exact this
theorem clOf_mem {env : Env} : ∀ {l : List (Str × NameKind)} {cs : List (Str × Addr)} {x : Str} {c : Addr}, (clOf l env cs).lookup x = some c → cs.lookup x = some c ∨ ((x, .free) ∈ l ∧ env.cells.lookup x = some c)
  | [], cs, x, c, h => .inl h
  | (n, k) :: r, cs, x, c, h => by
    rw [clOf_cons] at h
    rcases clOf_mem h with h | ⟨h1, h2⟩
    · by_cases hk : k = .free
      · subst hk
        simp only [beq_self_eq_true, if_true] at h
        cases e : env.cells.lookup n with
        | none => rw [e] at h; exact .inl h
        | some a =>
          rw [e] at h
          dsimp only at h
          rw [List.lookup_cons] at h
          cases hx : x == n with
          | true =>
            rw [hx] at h
            cases h
            have := eq_of_beq hx
            subst this
            exact .inr ⟨List.mem_cons_self, e⟩
          | false => rw [hx] at h; exact .inl h
      · have hb : (k == NameKind.free) = false := by simpa using hk
        simp only [hb, Bool.false_eq_true, if_false] at h
        exact .inl h
    · exact .inr ⟨List.mem_cons_of_mem _ h1, h2⟩
theorem clOf_keep {env : Env} {x : Str} : ∀ {l : List (Str × NameKind)} {cs : List (Str × Addr)}, (∃ c, cs.lookup x = some c) → ∃ c, (clOf l env cs).lookup x = some c
  | [], cs, h => h
  | (n, k) :: r, cs, h => by
    rw [clOf_cons]
    apply clOf_keep
    by_cases hk : (k == NameKind.free) = true
    · rw [if_pos hk]
      cases e : env.cells.lookup n with
      | none => exact h
      | some a =>
        dsimp only
        rw [List.lookup_cons]
        cases hx : x == n with
        | true => exact ⟨a, rfl⟩
        | false => exact h
    · rw [if_neg hk]; exact h
theorem clOf_has {env : Env} {x : Str} {c : Addr} (hc : env.cells.lookup x = some c) : ∀ {l : List (Str × NameKind)} {cs : List (Str × Addr)}, (x, .free) ∈ l → ∃ c, (clOf l env cs).lookup x = some c
  | [], cs, h => by simp at h
  | (n, k) :: r, cs, h => by
    rw [clOf_cons]
    rcases List.mem_cons.mp h with h | h
    · cases h
      apply clOf_keep
      simp only [beq_self_eq_true, if_true]
      rw [hc]
      exact ⟨c, by simp [List.lookup_cons]⟩
    · exact clOf_has hc h
noncomputable def cxc (X : Cx) (scope : Scope) (s3 : Shared) (H3 : Hp) (fp : List Addr) (C : Addr) : Cx :=
  { X with env := compEnvC scope (clOf scope.names X.env []) C X.env, outer := X.stack, s₀ := s3, H₀ := H3, ex := fp, fn := fun x => decide (scope.names.lookup x = some .local), pn := [], xe := fun _ _ => False }
structure CScope (X : Cx) (scope : Scope) : Prop where
  kind : scope.kind = .function
  nocell : ∀ y ∈ scope.names, y.2 ≠ .cell
  names : ∀ y ∈ scope.names, scope.names.lookup y.1 = some y.2
  free : ∀ y ∈ scope.names, y.2 = .free → X.env.kindOf y.1 = some .cell ∨ X.env.kindOf y.1 = some .free
section
variable {X : Cx} {scope : Scope} {pins : List (Addr × Obj)} {σ : St} {H : Hp} {s : Shared}
theorem relabel_lookup {env : Env} : ∀ {names : List (Str × NameKind)} {x : Str} {k : NameKind}, (names.map fun (n, k) => if (k == NameKind.free && env.scope.kind == .function && env.kindOf n == some .cell) then (n, NameKind.cell) else (n, k)).lookup x = some k →
    ∃ k0, names.lookup x = some k0 ∧ (k = k0 ∨ (k0 = .free ∧ k = .cell))
  | [], x, k, h => by simp at h
  | (n, k0) :: r, x, k, h => by
    rw [List.map_cons] at h
    have key : ∀ p : Str × NameKind, p.1 = n → (p.2 = k0 ∨ (k0 = .free ∧ p.2 = .cell)) → List.lookup x (p :: List.map (fun (n, k) => if (k == NameKind.free && env.scope.kind == .function && env.kindOf n == some .cell) then (n, NameKind.cell) else (n, k)) r) = some k →
        ∃ k0', List.lookup x ((n, k0) :: r) = some k0' ∧ (k = k0' ∨ (k0' = .free ∧ k = .cell)) := fun p hp hk hl => by
      obtain ⟨p1, p2⟩ := p
      dsimp only at hp hk
      subst hp
      rw [List.lookup_cons] at hl ⊢
      cases hx : x == p1 with
      | true => rw [hx] at hl; cases hl; exact ⟨k0, rfl, hk⟩
      | false => rw [hx] at hl; exact relabel_lookup hl
    dsimp only at h
    split at h
    · rename_i hc
      refine key _ rfl (.inr ⟨?_, rfl⟩) h
      simp only [Bool.and_eq_true, beq_iff_eq] at hc
      exact hc.1.1
    · exact key _ rfl (.inl rfl) h
theorem cxc_ok (S : CScope X scope) (I : Inv X pins σ H s) {fp : List Addr} (f : ∀ b ∈ fp, FpOk X pins H b) (lt : ∀ b ∈ fp, b < s.heap.objs.size) : (cxc X scope s H fp s.heap.objs.size).Ok where
  mod := I.ok.mod
  kind := S.kind
  glob := I.ok.glob
  blt := I.ok.blt
  above := Nat.le_refl _
  inj := fun x y c h1 h2 => by
    rcases clOf_mem h1 with h | ⟨_, h1⟩
    · simp at h
    rcases clOf_mem h2 with h | ⟨_, h2⟩
    · simp at h
    exact I.ok.inj x y c h1 h2
  has := fun x hx => by
    have hx' : ∃ k, (relabel scope X.env).names.lookup x = some k ∧ (k = .cell ∨ k = .free) := by
      rcases hx with hx | hx
      · exact ⟨_, hx, .inl rfl⟩
      · exact ⟨_, hx, .inr rfl⟩
    obtain ⟨k, hk, hk2⟩ := hx'
    obtain ⟨k0, h0, hh⟩ := relabel_lookup hk
    have hm := PySem.mem_of_lookup h0
    have hf : k0 = .free := by
      rcases hh with rfl | ⟨h, _⟩
      · rcases hk2 with rfl | rfl
        · exact absurd rfl (S.nocell _ hm)
        · rfl
      · exact h
    subst hf
    obtain ⟨c, hc⟩ := I.ok.has x (S.free _ hm rfl)
    exact clOf_has hc hm
  cab := fun x c hf h => by
    have hl : scope.names.lookup x = some .local := by simpa [cxc] using hf
    rcases clOf_mem h with h | ⟨h1, _⟩
    · simp at h
    · have := S.names _ h1
      rw [hl] at this; cases this
  hd := I.ok.hd
  frames := I.ok.frames
  stk := .inl rfl
  exf := fun b hb => ⟨Nat.ne_of_lt (lt b hb), fun x c h => by
    rcases clOf_mem h with h | ⟨_, h⟩
    · simp at h
    · exact (f b hb).2.2.2.2.1 x c h⟩
  bs := I.bs
  bsz := Nat.le_trans I.ok.bsz I.sz
  noex := fun b o e hb => by
    rcases (f b hb).2.2.2.1 with h | h
    · exact I.ok.noex b o e h
    · have h2 : b < X.base.objs.size := Heap.lt_size e
      exact absurd (Nat.lt_of_lt_of_le h2 (Nat.le_trans I.ok.bsz h)) (Nat.lt_irrefl _)
  exfs := fun b hb z => by
    rcases List.mem_cons.mp (I.stkSub b z) with z | z
    · exact (f b hb).2.1 z
    · exact (f b hb).2.2.1 z
  funs := I.stack
  frf := I.stkFree

noncomputable def clr : List Nat → Ev → Ev
  | [], E => E
  | i :: r, E => clr r (E.set i .un)
noncomputable def clrS : List Nat → St → St
  | [], σ => σ
  | i :: r, σ => clrS r (σ.set i none)
theorem clrS_len : ∀ (ts : List Nat) (σ : St), (clrS ts σ).length = σ.length
  | [], σ => rfl
  | i :: r, σ => by unfold clrS; rw [clrS_len r]; simp
theorem clrS_get : ∀ (ts : List Nat) (σ : St) (j : Nat), (clrS ts σ)[j]? = if j ∈ ts then (if j < σ.length then some none else none) else σ[j]?
  | [], σ, j => by simp [clrS]
  | i :: r, σ, j => by
    unfold clrS
    rw [clrS_get r]
    by_cases h : j ∈ r
    · simp [h]
    · by_cases e : j = i
      · subst e
        simp only [h, if_false, List.mem_cons, true_or, if_true]
        by_cases hl : j < σ.length
        · rw [set_self hl]; simp [hl]
        · simp [hl]
      · simp only [h, if_false, List.mem_cons, e, or_self, if_false]
        exact set_ne e
theorem clr_get : ∀ (ts : List Nat) (E : Ev) (j : Nat), (clr ts E)[j]? = if j ∈ ts then (if j < E.length then some .un else none) else E[j]?
  | [], σ, j => by simp [clr]
  | i :: r, σ, j => by
    unfold clr
    rw [clr_get r]
    by_cases h : j ∈ r
    · simp [h]
    · by_cases e : j = i
      · subst e
        simp only [h, if_false, List.mem_cons, true_or, if_true]
        by_cases hl : j < σ.length
        · rw [set_self hl]; simp [hl]
        · simp [hl]
      · simp only [h, if_false, List.mem_cons, e, or_self, if_false]
        exact set_ne e
theorem clr_len (ts : List Nat) : ∀ (E : Ev), (clr ts E).length = E.length := by
  induction ts with
  | nil => intro E; rfl
  | cons i r ih => intro E; unfold clr; rw [ih]; simp
theorem clr_some {ts : List Nat} {E : Ev} {j : Nat} {x : Sl} (hx : x ≠ .un) (h : (clr ts E)[j]? = some x) : j ∉ ts ∧ E[j]? = some x := by
  rw [clr_get] at h
  by_cases hj : j ∈ ts
  · rw [if_pos hj] at h
    split at h
    · cases h; exact absurd rfl hx
    · cases h
  · rw [if_neg hj] at h
    exact ⟨hj, h⟩
theorem inv_block (S : CScope X scope) (I : Inv X pins σ H s) {fp : List Addr} (f : ∀ b ∈ fp, FpOk X pins H b) (lt : ∀ b ∈ fp, b < s.heap.objs.size) {ts : List Nat} (hts : ∀ (i : Nat) x, X.N[i]? = some x → scope.names.lookup x = some .local → i ∈ ts)
    {h' : Heap} (hns : h'.Ns s.heap.objs.size fun _ => none) (keep : ∀ b o, s.heap.get? b = some o → h'.get? b = some o) {tk : Nat} : Inv (cxc X scope s H fp s.heap.objs.size) [] (clrS ts σ) H { s with heap := h', toks := tk } := by
  refine ⟨cxc_ok S I f lt, rfl, I.bare, Un.kept keep, ⟨_, hns, fun i x v h1 h2 h3 => ?_⟩, fun x c h => ?_, I.hok.fresh (Nat.le_refl _), fun x c h => ?_, fun p hp => absurd hp (by simp [cxc]), I.hok.kept keep, ?_⟩
  · have h1 : X.N[i]? = some x := h1
    have hi : i ∉ ts ∧ σ[i]? = some (some v) := by
      rw [clrS_get] at h2
      by_cases hj : i ∈ ts
      · rw [if_pos hj] at h2
        split at h2 <;> cases h2
      · rw [if_neg hj] at h2
        exact ⟨hj, h2⟩
    have hk : ∃ k, (relabel scope X.env).names.lookup x = some k ∧ (k = .local ∨ k = .cell ∨ k = .free) := by
      rcases h3 with h | h | h
      · exact ⟨_, h, .inl rfl⟩
      · exact ⟨_, h, .inr (.inl rfl)⟩
      · exact ⟨_, h, .inr (.inr rfl)⟩
    obtain ⟨k, hk, hk2⟩ := hk
    obtain ⟨k0, h0, hh⟩ := relabel_lookup hk
    have hm := PySem.mem_of_lookup h0
    have hf : k0 = .free := by
      rcases hh with rfl | ⟨h, _⟩
      · rcases hk2 with rfl | rfl | rfl
        · exact absurd (hts i x h1 h0) hi.1
        · exact absurd rfl (S.nocell _ hm)
        · rfl
      · exact h
    subst hf
    have hk3 : k = .cell ∨ k = .free := by
      rcases hh with rfl | ⟨_, h⟩
      · exact .inr rfl
      · exact .inl h
    obtain ⟨m, _, hl⟩ := I.loc
    have kx := S.free _ hm rfl
    have vis : Vis X.env.scope x := by
      rcases kx with kx | kx
      · exact .inr (.inl kx)
      · exact .inr (.inr kx)
    obtain ⟨u, ru, lk⟩ := hl i x v h1 hi.2 vis
    refine ⟨u, ru, ?_⟩
    rcases lk with ⟨q, _⟩ | ⟨_, c, hc, hcell⟩
    · exfalso
      rcases kx with kx | kx <;> (have z := q.symm.trans kx; cases z)
    · obtain ⟨c', hc'⟩ := clOf_has hc (cs := []) hm
      have : c' = c := by
        rcases clOf_mem hc' with z | ⟨_, z⟩
        · simp at z
        · exact Option.some.inj (z.symm.trans hc)
      subst this
      refine .inr ⟨?_, c', hc', ?_⟩
      · rcases hk3 with rfl | rfl
        · exact .inl hk
        · exact .inr hk
      · obtain ⟨o, e, rest⟩ := hcell
        exact ⟨o, keep _ _ e, rest⟩
  · rcases clOf_mem h with z | ⟨_, z⟩
    · simp at z
    · obtain ⟨v, o, e, rest⟩ := I.cell x c z
      exact ⟨v, o, keep _ _ e, rest⟩
  · rcases clOf_mem h with z | ⟨_, z⟩
    · simp at z
    · exact I.freeC x c z
  · rw [clrS_len]; exact I.len
end

noncomputable def compL (set : D → Ev → Option Ev) (mt : Ev → R Bool) (me : EV) (E : Ev) : List D → R (List D)
  | [] => .ok []
  | d :: ds => match set d E with
    | none => .no
    | some E1 => mt E1 >>= fun k => if k = true then (me E1 >>= fun y => compL set mt me E ds >>= fun ys => .ok (y :: ys)) else compL set mt me E ds
noncomputable def noOw (ts : List Nat) (E : Ev) : Bool := ts.all fun i => match E[i]? with
  | some (.ow _) => false
  | _ => true
noncomputable def eComp (ts : List Nat) (set : D → Ev → Option Ev) (mi : Ev → R (List D)) (mt : Ev → R Bool) (me : EV) : EV := fun E =>
  if noOw ts E = true then (mi E >>= fun ds => if ds.length ≤ 1000000 then (compL set mt me (clr ts E) ds >>= fun ys => .ok (.lst ys)) else .no) else .no
noncomputable def SC (X : Cx) (G : Fc) (ifs : List Expr) (mt : Ev → R Bool) : Prop :=
  ∀ (pins : List (Addr × Obj)) (s : Shared) (σ : St) (H : Hp) (Q : Bool → Hp → Prop), Inv X pins σ H s → (∃ E, Rel X.K G E σ H ∧ Fin (mt E) (fun b => ∀ H', Same H H' → Q b H') G.xc) →
    wpAny (model X.prog X.w) X.A (forIn ifs true fun c r => if r = true then do let ok ← isTrue c X.env (eval c X.env); pure (ForInStep.yield ok) else pure (ForInStep.yield r)) (TP X pins σ Q) X.xe s
noncomputable def tTrue : Ev → R Bool := fun _ => .ok true
section
variable {X : Cx} {G : Fc}
theorem sc_nil : SC X G [] tTrue := fun pins s σ H Q I ⟨E, hr, f⟩ => wpAny_pure ⟨H, I, f H (Same.refl _)⟩
theorem sc_one {c : Expr} {mt : Ev → R Bool} (h : ST X G c mt) : SC X G [c] mt := by
  rintro pins s σ H Q I ⟨E, hr, f⟩
  rw [List.forIn_cons]
  simp only [if_true]
  refine wpAny_bind (wpAny_bind (thn (h pins s σ H Q I ⟨E, hr, f⟩) fun b s1 q => wpAny_pure ?_))
  exact wpAny_pure q
end
theorem Un.post {fs ex : List Addr} {H H1 : Hp} {h h1 h2 : Heap} {C : Addr} (u : Un fs ex H H1 h h1) (k : ∀ b o, b ≠ C → h1.get? b = some o → h2.get? b = some o) (n : ∀ b o, h.get? b = some o → b ≠ C) : Un fs ex H H1 h h2 where
  keep := fun b o q m hb he => k b o (n b o q) (u.keep b o q m hb he)
  slot := fun b o q m hb he => by obtain ⟨sl, e⟩ := u.slot b o q m hb he; exact ⟨sl, k b _ (n b o q) e⟩
  free := u.free
  there := fun b o q he => by obtain ⟨o', e⟩ := u.there b o q he; exact ⟨o', k b _ (n b o q) e⟩
  tups := u.tups
  frzs := u.frzs
  tbls := u.tbls
theorem HOk.post {P : Program} {w : World} {H : Hp} {h h' : Heap} {C : Addr} (x : HOk P w H h) (n : H C = none) (k : ∀ b o, b ≠ C → h.get? b = some o → h'.get? b = some o) : HOk P w H h' := fun a o e =>
  (x a o e).stay (fun b u hb q => k b u (by
    rcases hb with rfl | hb
    · exact fun z => by subst z; rw [n] at e; cases e
    · exact fun z => by subst z; rw [n] at hb; cases hb) q) (fun _ q => q) fun _ _ q => q
section
variable {K : PySem.W.Frag} {G : Fc} {E : Ev} {σ : St} {H H' : Hp}
noncomputable def Fc.in (G : Fc) (E : Ev) (σ : St) (H : Hp) (L : Addr) (vs : List V) : Fc := ⟨fun b => if b = L then some (.lst vs) else (G.lock E σ H).h0 b, fun a => G.pr a ∨ a = L, G.xc⟩
theorem in_le {L : Addr} {vs : List V} (n : H L = none) : (G.lock E σ H).Le (G.in E σ H L vs) where
  h0 := fun b o h => by
    have hb : b ≠ L := fun z => by
      subst z
      unfold Fc.lock at h
      dsimp only at h
      split at h
      · cases h
      · rw [n] at h; cases h
    unfold Fc.in
    simp only [hb, if_false]
    exact h
  pr := fun b o h z => by
    rcases z with z | z
    · exact z
    · subst z
      unfold Fc.lock at h
      dsimp only at h
      split at h
      · cases h
      · rw [n] at h; cases h
  sub := fun a h => .inl h
theorem ow_clr {pr : Addr → Prop} {ts : List Nat} {σ' : St} {a : Addr} (hσ : ∀ j, j ∉ ts → σ'[j]? = σ[j]?) (h : Ow pr (clr ts E) σ' a) : Ow pr E σ a := by
  rcases h with h | ⟨i, d, h1, h2⟩
  · exact .inl h
  · obtain ⟨hi, h1⟩ := clr_some (by intro z; cases z) h1
    rw [hσ i hi] at h2
    exact .inr ⟨i, d, h1, h2⟩
theorem ow_clr' {pr : Addr → Prop} {ts : List Nat} {σ' : St} {a : Addr} (no : noOw ts E = true) (hσ : ∀ j, j ∉ ts → σ'[j]? = σ[j]?) (h : Ow pr E σ a) : Ow pr (clr ts E) σ' a := by
  rcases h with h | ⟨i, d, h1, h2⟩
  · exact .inl h
  · have hi : i ∉ ts := fun hi => by
      have := List.all_eq_true.mp no i hi
      rw [h1] at this
      cases this
    exact .inr ⟨i, d, by rw [clr_get, if_neg hi]; exact h1, by rw [hσ i hi]; exact h2⟩
theorem Rel.block {ts : List Nat} {L : Addr} (r : Rel K G E σ H) (n : H L = none) : Rel K (G.in E σ H L []) (clr ts E) (clrS ts σ) (upd H L (.lst [])) := by
  have hσ : ∀ j, j ∉ ts → (clrS ts σ)[j]? = σ[j]? := fun j hj => by rw [clrS_get, if_neg hj]
  have sub : ∀ b, Ow (G.in E σ H L []).pr (clr ts E) (clrS ts σ) b → Ow G.pr E σ b ∨ b = L := fun b h => by
    rcases h with (h | h) | h
    · exact .inl (.inl h)
    · exact .inr h
    · exact .inl (ow_clr hσ (.inr h))
  refine ⟨by rw [clr_len, clrS_len]; exact r.len, fun i d h => ?_, fun i d h => ?_, fun i j d e a h1 h2 h3 h4 => ?_, fun b o h => ?_, fun a h => ?_⟩
  · obtain ⟨hi, h⟩ := clr_some (by intro z; cases z) h
    obtain ⟨v, e, p⟩ := r.fz i d h
    exact ⟨v, by rw [hσ i hi]; exact e, (p.fresh n).mono (same_upd n) sub⟩
  · obtain ⟨hi, h⟩ := clr_some (by intro z; cases z) h
    obtain ⟨a, e1, e2, e3⟩ := r.ow i d h
    have ha : a ≠ L := fun z => by subst z; obtain ⟨o, q, _⟩ := e2.there; rw [n] at q; cases q
    refine ⟨a, by rw [hσ i hi]; exact e1, ?_, ?_⟩
    · have h4 : Own K H (fun b => Ow G.pr E σ b ∨ b = L) d a := by
        cases d with
        | lst ds => obtain ⟨vs, e, q⟩ := e2; exact ⟨vs, e, q.fresh n⟩
        | dic ds => obtain ⟨vs, e, q⟩ := e2; exact ⟨vs, e, q.fresh n⟩
        | _ => exact e2
      exact h4.mono (same_upd n) sub
    · have : SlotOwn E σ a := ⟨i, d, h, e1⟩
      unfold Fc.in Fc.lock
      simp [ha, this]
  · obtain ⟨hi, h1⟩ := clr_some (by intro z; cases z) h1
    obtain ⟨hj, h2⟩ := clr_some (by intro z; cases z) h2
    rw [hσ i hi] at h3
    rw [hσ j hj] at h4
    exact r.ne i j d e a h1 h2 h3 h4
  · unfold Fc.in at h
    dsimp only at h
    split at h
    · rename_i e; subst e; rw [upd_same]; exact h
    · rename_i e; rw [upd_ne e]; exact r.lock.base _ _ h
  · rcases h with h | h
    · obtain ⟨o, q, nt⟩ := r.lock.prt a h
      refine ⟨o, ?_, nt⟩
      exact (in_le n).h0 _ _ q
    · subst h
      exact ⟨.lst [], by unfold Fc.in; simp, True.intro⟩
theorem Rel.bump {E0 : Ev} {σ0 : St} {H0 : Hp} {L : Addr} {vs ws : List V} (r : Rel K (G.in E0 σ0 H0 L vs) E σ H) : Rel K (G.in E0 σ0 H0 L ws) E σ (upd H L (.lst ws)) := by
  have hL : Ow (G.in E0 σ0 H0 L vs).pr E σ L := .inl (.inr rfl)
  refine ⟨r.len, fun i d h => ?_, fun i d h => ?_, r.ne, fun b o h => ?_, fun a h => ?_⟩
  · obtain ⟨v, e, p⟩ := r.fz i d h
    exact ⟨v, e, p.write hL⟩
  · obtain ⟨a, e1, e2, e3⟩ := r.ow i d h
    have ha : a ≠ L := fun z => by subst z; unfold Fc.in at e3; simp at e3
    refine ⟨a, e1, ?_, ?_⟩
    · cases d with
      | lst ds => obtain ⟨vs, e, q⟩ := e2; exact ⟨vs, by rw [upd_ne ha]; exact e, q.write hL⟩
      | dic ds => obtain ⟨vs, e, q⟩ := e2; exact ⟨vs, by rw [upd_ne ha]; exact e, q.write hL⟩
      | _ => exact e2
    · unfold Fc.in at e3 ⊢
      simp only [ha, if_false] at e3 ⊢
      exact e3
  · by_cases e : b = L
    · subst e
      unfold Fc.in at h
      simp at h
      rw [upd_same, h]
    · rw [upd_ne e]
      refine r.base _ _ ?_
      unfold Fc.in at h ⊢
      simp only [e, if_false] at h ⊢
      exact h
  · obtain ⟨o, q, nt⟩ := r.prt a h
    by_cases e : a = L
    · subst e; exact ⟨.lst ws, by unfold Fc.in; simp, True.intro⟩
    · refine ⟨o, ?_, nt⟩
      unfold Fc.in at q ⊢
      simp only [e, if_false] at q ⊢
      exact q
theorem Rel.un {i : Nat} (r : Rel K G E σ H) : Rel K G (E.set i .un) σ H := by
  have sub : ∀ b, Ow G.pr (E.set i .un) σ b → Ow G.pr E σ b := fun b h => by
    rcases h with h | ⟨j, d, h1, h2⟩
    · exact .inl h
    · rcases get_set h1 with ⟨_, z⟩ | ⟨_, h1⟩
      · cases z
      · exact .inr ⟨j, d, h1, h2⟩
  refine ⟨by simp [r.len], fun j d h => ?_, fun j d h => ?_, fun j k d e a h1 h2 h3 h4 => ?_, r.base, r.prt⟩
  · rcases get_set h with ⟨_, z⟩ | ⟨_, h⟩
    · cases z
    · obtain ⟨v, e, p⟩ := r.fz j d h; exact ⟨v, e, p.mono (Same.refl _) sub⟩
  · rcases get_set h with ⟨_, z⟩ | ⟨_, h⟩
    · cases z
    · obtain ⟨a, e1, e2, e3⟩ := r.ow j d h; exact ⟨a, e1, e2.mono (Same.refl _) sub, e3⟩
  · rcases get_set h1 with ⟨_, z⟩ | ⟨_, h1⟩
    · cases z
    rcases get_set h2 with ⟨_, z⟩ | ⟨_, h2⟩
    · cases z
    exact r.ne j k d e a h1 h2 h3 h4
theorem Rel.clr : ∀ {ts : List Nat} {E : Ev}, Rel K G E σ H → Rel K G (clr ts E) σ H
  | [], E, r => r
  | i :: ts, E, r => by unfold M.clr; exact Rel.clr r.un
end

section
variable {X : Cx} {G : Fc} {elt iter tg : Expr} {ifs : List Expr} {scope : Scope} {pos : Pos} {ts : List Nat} {set : D → Ev → Option Ev} {mi : Ev → R (List D)} {mt : Ev → R Bool} {me : EV}
structure CompOk (X : Cx) (xc : Nat → Prop) (elt tg : Expr) (ifs : List Expr) (scope : Scope) (ts : List Nat) (set : D → Ev → Option Ev) (mt : Ev → R Bool) (me : EV) : Prop where
  S : CScope X scope
  loc : ∀ (i : Nat) x, X.N[i]? = some x → scope.names.lookup x = some .local → i ∈ ts
  hset : ∀ d E E', set d E = some E' → clr ts E' = clr ts E
  hg : ∀ s3 H3 fp C, SG (cxc X scope s3 H3 fp C) tg ts set
  hc : ∀ s3 H3 fp C G', G'.xc = xc → SC (cxc X scope s3 H3 fp C) G' ifs mt
  he : ∀ s3 H3 fp C G', G'.xc = xc → SF (cxc X scope s3 H3 fp C) G' elt me
structure CompI (X : Cx) (G : Fc) (scope : Scope) (ts : List Nat) (set : D → Ev → Option Ev) (mt : Ev → R Bool) (me : EV) (E : Ev) (σ : St) (H2 H3 : Hp) (s3 : Shared) (L C : Addr) (fp : List Addr) (tn : Nat → Heap → Prop) (ds all : List D)
    (n : Nat) (s' : Shared) (i : Nat) (σi : St) (Hi : Hp) (vs : List V) (ys rest : List D) : Prop where
  hn : n = ds.length - i
  hi : i ≤ ds.length
  Ii : Inv (cxc X scope s3 H3 fp C) [] σi Hi s'
  sti : tn i s'.heap
  fri : ∀ b ∈ fp, Hi b = none
  hL : Hi L = some (.lst vs)
  rps : Rps X.K Hi (Ow (G.in E σ H2 L vs).pr (clr ts E) σi) ys vs
  ri : Rel X.K (G.in E σ H2 L vs) (clr ts E) σi Hi
  hσ : ∀ j, j ∉ ts → σi[j]? = σ[j]?
  sm : Same H2 Hi
  hle : ys.length ≤ i
  hc : compL set mt me (clr ts E) (ds.drop i) = .ok rest
  hall : all = ys ++ rest
theorem comp_loop {σ : St} {H2 : Hp} {E : Ev} {ds all : List D} {it L C : Addr} {fp : List Addr} {tn : Nat → Heap → Prop} {J : It} {RR : Result → Shared → Prop} {s3 : Shared} {H3 : Hp} (calm : X.calm = true) (hx : ∀ c, ¬ G.xc c) (O : CompOk X G.xc elt tg ifs scope ts set mt me)
    (T : Turn X.prog X.w X.K tg J fp it tn) (itB : ∀ (vs : List V) (E' : Ev) (σ' : St) (H' : Hp), Rel X.K (G.in E σ H2 L vs) E' σ' H' → J.stop ds.length H' ∧ ∀ (i : Nat) (d : D), ds[i]? = some d → J.go i H' ∧ ∀ x H'', J.yld i H' x H'' → Same H' H'' ∧ Rp X.K H'' (Ow (G.in E σ H2 L vs).pr E' σ') d x)
    (hlen : ds.length ≤ 1000000) (nL : H2 L = none)
    (fin : ∀ (σe : St) (He : Hp) (vs : List V) (s1 : Shared), Inv (cxc X scope s3 H3 fp C) [] σe He s1 → He L = some (.lst vs) → Rps X.K He (Ow (G.in E σ H2 L vs).pr (clr ts E) σe) all vs → (∀ j, j ∉ ts → σe[j]? = σ[j]?) → Same H2 He → RR (.ok .next) s1)
    (s₀ : Shared) (n : Nat) (i : Nat) (σi : St) (Hi : Hp) (vs : List V) (ys rest : List D) (hn : n = ds.length - i) (hi : i ≤ ds.length) (Ii : Inv (cxc X scope s3 H3 fp C) [] σi Hi s₀) (sti : tn i s₀.heap) (fri : ∀ b ∈ fp, Hi b = none) (hL : Hi L = some (.lst vs))
    (rps : Rps X.K Hi (Ow (G.in E σ H2 L vs).pr (clr ts E) σi) ys vs) (ri : Rel X.K (G.in E σ H2 L vs) (clr ts E) σi Hi) (hσ : ∀ j, j ∉ ts → σi[j]? = σ[j]?) (sm : Same H2 Hi) (hle : ys.length ≤ i) (hc : compL set mt me (clr ts E) (ds.drop i) = .ok rest) (hall : all = ys ++ rest) :
    codeAny (model X.prog X.w) X.A (.compLoop (.ListComp elt [⟨tg, iter, ifs, 0⟩] scope pos) 0 (.ref it) (.ref L) (cxc X scope s3 H3 fp C).env) RR s₀ := by
  refine compLoop_go (fun n s' => ∃ (i : Nat) (σi : St) (Hi : Hp) (vs : List V) (ys rest : List D), CompI X G scope ts set mt me E σ H2 H3 s3 L C fp tn ds all n s' i σi Hi vs ys rest) ?_ n ⟨i, σi, Hi, vs, ys, rest, hn, hi, Ii, sti, fri, hL, rps, ri, hσ, sm, hle, hc, hall⟩
  clear hn hi Ii sti fri hL rps ri hσ sm hle hc hall
  rintro n s' ⟨i, σi, Hi, vs, ys, rest, rfl, hi, Ii, sti, fri, hL, rps, ri, hσ, sm, hle, hc, hall⟩
  obtain ⟨stop, go⟩ := itB vs (clr ts E) σi Hi ri
  have okX := Ii.ok
  have fpX : ∀ {H' : Hp}, (∀ b ∈ fp, H' b = none) → ∀ b ∈ fp, FpOk (cxc X scope s3 H3 fp C) [] H' b := fun hn b hb =>
    ⟨hn b hb, (okX.exf b hb).1, okX.exfs b hb, .inl hb, fun x c h => (okX.exf b hb).2 x c h, fun p hp => absurd hp (by simp [cxc])⟩
  by_cases hlt : i < ds.length
  · obtain ⟨go1, yl⟩ := go i ds[i] (by simp [hlt])
    rw [List.drop_eq_getElem_cons hlt] at hc
    unfold compL at hc
    refine wpAny_mono (T.item (cxc X scope s3 H3 fp C) rfl rfl rfl calm i [] s' σi Hi (fun _ _ => False) Ii (fpX fri) sti go1) (?_) fun _ _ z => z
    rintro r s1 ⟨u, hr, h1⟩
    subst hr
    refine wpAny_mono h1 (?_) fun _ _ z => z
    rintro _ s2 ⟨x, Hy, Iy, rx, y1, sty, fry⟩
    obtain ⟨sy, px⟩ := yl x Hy y1
    cases hse : set ds[i] (clr ts E) with
    | none => rw [hse] at hc; cases hc
    | some E1 =>
    rw [hse] at hc
    dsimp only at hc
    have Iy' := Iy.pinned (fpX fry) (T.obj _ _ sty)
    obtain ⟨g, hg, hset⟩ := O.hg s3 H3 fp C
    have ry := ri.same sy
    -- the target
    refine wpAny_mono (hg _ s2 σi Hy x u _ Iy' rx (hset (G.in E σ H2 L vs) (clr ts E) E1 σi Hy ds[i] x (fun σ' H' => H' = Hy ∧ (∀ j, j ∉ ts → σ'[j]? = σi[j]?) ∧ Rel X.K (G.in E σ H2 L vs) E1 σ' Hy) ry px hse fun σ' h1 h2 => ⟨rfl, h1, h2⟩)) (?_) fun _ _ z => z
    rintro _ s4 ⟨σ4, H4, I4, e4, hσ4, r4⟩
    have e4' := e4.symm
    subst e4'
    have hσ4' : ∀ j, j ∉ ts → σ4[j]? = σ[j]? := fun j hj => (hσ4 j hj).trans (hσ j hj)
    have eclr : clr ts E1 = clr ts E := by
      have := O.hset _ _ _ hse
      rw [this]
      apply List.ext_getElem?
      intro j
      rw [clr_get, clr_get, clr_len]
      by_cases hj : j ∈ ts
      · simp [hj]
      · simp [hj]
    -- the iterator behind a state of the block
    have again : ∀ {s9 : Shared} {σ9 : St} {H9 : Hp}, Inv (cxc X scope s3 H3 fp C) ([] ++ pinsAt fp s2.heap) σ9 H9 s9 → Inv (cxc X scope s3 H3 fp C) [] σ9 H9 s9 ∧ tn (i + 1) s9.heap ∧ ∀ b ∈ fp, H9 b = none := fun {s9 σ9 H9} I9 => by
      refine ⟨I9.unpinned, T.keep _ _ _ sty fun b hb o e => (I9.pin (b, o) (List.mem_append_right _ (List.mem_append_right _ (mem_pinsAt hb e)))).1, fun b hb => ?_⟩
      obtain ⟨o, e, d⟩ := T.obj _ _ sty b hb
      exact (I9.pin (b, o) (List.mem_append_right _ (List.mem_append_right _ (mem_pinsAt hb e)))).2.1
    have smy : Same H2 Hy := sm.trans sy
    have hLy : Hy L = some (.lst vs) := sy _ _ hL
    -- the tests
    cases hmt : mt E1 with
    | er c => rw [hmt] at hc; cases hc
    | no => rw [hmt] at hc; cases hc
    | ok k =>
    rw [hmt] at hc
    simp only [R.ok_bind] at hc
    refine wpAny_mono (O.hc s3 H3 fp C (G.in E σ H2 L vs) rfl _ s4 σ4 Hy (fun b H' => b = k ∧ Same Hy H') I4 ⟨E1, r4, by rw [hmt]; exact fun H' s => ⟨rfl, s⟩⟩) (fun ok s5 ⟨H5, I5, e5, s5'⟩ => ?_) fun _ _ z => z
    subst e5
    have r5 := r4.same s5'
    cases ok with
    | false =>
      rw [if_neg Bool.false_ne_true] at hc ⊢
      obtain ⟨J5, t5, n5⟩ := again I5
      refine ⟨ds.length - (i + 1), by omega, i + 1, σ4, H5, vs, ys, rest, rfl, hlt, J5, t5, n5, s5' _ _ hLy, ?_, ?_, hσ4', smy.trans s5', by omega, hc, hall⟩
      · refine rps.mono (sy.trans s5') fun b z => ?_
        rcases z with z | ⟨j, d, z1, z2⟩
        · exact .inl z
        · obtain ⟨hj, z3⟩ := clr_some (by intro q; cases q) z1
          exact .inr ⟨j, d, z1, by rw [← hσ4 j hj]; exact z2⟩
      · rw [← eclr]; exact r5.clr
    | true =>
      rw [if_pos rfl] at hc ⊢
      cases hme : me E1 with
      | er c => rw [hme] at hc; cases hc
      | no => rw [hme] at hc; cases hc
      | ok y =>
      rw [hme] at hc
      simp only [R.ok_bind] at hc
      cases hrest : compL set mt me (clr ts E) (ds.drop (i + 1)) with
      | er c => rw [hrest] at hc; cases hc
      | no => rw [hrest] at hc; cases hc
      | ok zs =>
      rw [hrest] at hc
      simp only [R.ok_bind] at hc
      cases hc
      refine wpAny_mono (O.he s3 H3 fp C (G.in E σ H2 L vs) rfl _ s5 σ4 H5 (fun v H' => Same H5 H' ∧ Rp X.K H' (Ow (G.in E σ H2 L vs).pr E1 σ4) y v) I5 ⟨E1, r5, by rw [hme]; exact fun v H' s p => ⟨s, p⟩⟩) (fun z s6 ⟨v6, H6, I6, rv6, s6', p6⟩ => ?_) fun _ _ z => z
      have r6 := r5.same s6'
      have hL6 : H6 L = some (.lst vs) := s6' _ _ (s5' _ _ hLy)
      have lv : vs.length < sizeLine := by rw [rps.length, sizeLine_eq]; omega
      refine wpAny_mono (mt_append (X := cxc X scope s3 H3 fp C) _ s6 σ4 H6 (.ref L) [v6] (.ref L) [z] (fun _ H' => H' = upd H6 L (.lst (vs ++ [v6]))) I6 rfl (.cons rv6 .nil) ⟨L, vs, v6, rfl, rfl, hL6, lv, rfl⟩) (?_) fun _ _ z => z
      rintro _ s7 ⟨_, H7, I7, _, e7⟩
      subst e7
      obtain ⟨J7, t7, n7⟩ := again I7
      have hLo : Ow (G.in E σ H2 L vs).pr E1 σ4 L := .inl (.inr rfl)
      have owsub : ∀ b, Ow (G.in E σ H2 L (vs ++ [v6])).pr (clr ts E) σ4 b → Ow (G.in E σ H2 L vs).pr E1 σ4 b := fun b z => by
        rw [← eclr] at z
        rcases z with z | ⟨j, d, z1, z2⟩
        · exact .inl z
        · exact .inr ⟨j, d, (clr_some (by intro q; cases q) z1).2, z2⟩
      refine ⟨ds.length - (i + 1), by omega, i + 1, σ4, _, vs ++ [v6], ys ++ [y], zs, rfl, hlt, J7, t7, n7, upd_same, ?_, ?_, hσ4', ?_, by simp; omega, hrest, by simp [hall]⟩
      · refine Rps.append ?_ (Rps.cons ((p6.write hLo).mono (Same.refl _) owsub) Rps.nil)
        have q1 : Rps X.K H6 (Ow (G.in E σ H2 L vs).pr (clr ts E) σ4) ys vs := rps.mono (sy.trans (s5'.trans s6')) fun b z => by
          rcases z with z | ⟨j, d, z1, z2⟩
          · exact .inl z
          · obtain ⟨hj, z3⟩ := clr_some (by intro q; cases q) z1
            exact .inr ⟨j, d, z1, by rw [← hσ4 j hj]; exact z2⟩
        exact q1.write (.inl (.inr rfl))
      · have := r6.clr (ts := ts)
        rw [eclr] at this
        exact this.bump
      · intro b o hb
        have hb' : b ≠ L := fun q => by subst q; rw [nL] at hb; cases hb
        rw [upd_ne hb']
        exact s6' _ _ (s5' _ _ (smy _ _ hb))
  · have e : i = ds.length := by omega
    subst e
    rw [List.drop_length] at hc
    unfold compL at hc
    cases hc
    rw [List.append_nil] at hall
    subst hall
    refine wpAny_mono (T.done (cxc X scope s3 H3 fp C) rfl rfl rfl calm ds.length [] s' σi Hi (fun _ _ => False) Ii (fpX fri) sti stop) (?_) fun _ _ z => z
    rintro r s1 ⟨hr, I1⟩
    subst hr
    exact fin σi Hi vs s1 I1 hL rps hσ sm
theorem comp_run {pins : List (Addr × Obj)} {σ : St} {H2 : Hp} {s2 : Shared} {E : Ev} {ds all : List D} {it : Addr} {fp : List Addr} {tn : Nat → Heap → Prop} {J : It} {Rr : Value → Addr → Result → Shared → Prop} (calm : X.calm = true) (hx : ∀ c, ¬ G.xc c) (O : CompOk X G.xc elt tg ifs scope ts set mt me)
    (I : Inv X pins σ H2 s2) (T : Turn X.prog X.w X.K tg J fp it tn) (st : tn 0 s2.heap) (f : ∀ b ∈ fp, FpOk X pins H2 b) (r : Rel X.K G E σ H2) (itok : ItOk X.K (G.lock E σ H2) J ds) (hlen : ds.length ≤ 1000000) (no : noOw ts E = true) (hall : compL set mt me (clr ts E) ds = .ok all)
    (fin : ∀ (L C : Addr) (He : Hp) (s' : Shared) (m : Str → Option Value), H2 L = none → C ≠ X.env.locals → s'.heap.Ns C m → He C = none → (∀ x c, X.env.cells.lookup x = some c → c ≠ C) → C ∉ X.fs → X.s₀.heap.objs.size ≤ C → (∀ p ∈ X.pn ++ pins, p.1 ≠ C) → (∀ h', (∀ b o, b ≠ C → s'.heap.get? b = some o → h'.get? b = some o) → Inv X pins σ He { s' with heap := h' }) → Same H2 He → Own X.K He (fun b => Ow G.pr E σ b ∨ b = L) (.lst all) L → Rr (.ref L) C (.ok .next) s') :
    wpAny (model X.prog X.w) X.A (newList []) (fun acc s₃ => wpAny (model X.prog X.w) X.A (newFunctionEnv scope X.env.globals (clOf scope.names X.env []) [] X.env.qual none .none (some X.env)) (fun cenv s₄ =>
      codeAny (model X.prog X.w) X.A (.compStart (.ListComp elt [⟨tg, iter, ifs, 0⟩] scope pos) 0 (.ref it) acc { cenv with scope := relabel scope X.env }) (Rr acc cenv.locals) s₄) X.xe s₃) X.xe s2 := by
  refine wpAny_newObj_type (wpAny_newFunctionEnv O.S.nocell (by intro y hy; simp at hy) (fun h₁ hns₁ hsb₁ => ?_) O.S.kind)
  dsimp only at hns₁ hsb₁ ⊢
  generalize hp3 : s2.heap.push { cls := .type "list", data := .seq #[] } = h3 at hns₁ hsb₁ ⊢
  have hC : h3.objs.size = s2.heap.objs.size + 1 := by rw [← hp3, Heap.size_push]
  have k23 : ∀ b o, s2.heap.get? b = some o → h3.get? b = some o := fun b o e => by rw [← hp3]; exact Heap.get?_push_of_some _ e
  have nL : H2 s2.heap.objs.size = none := I.hok.fresh (Nat.le_refl _)
  have I3 : Inv X pins σ (upd H2 s2.heap.objs.size (.lst [])) { s2 with heap := h3, toks := s2.toks } := by
    rw [← hp3]
    exact I.laid (a := s2.heap.objs.size) (o := .lst []) (t' := s2.toks) (fun _ _ q => Heap.get?_push_of_some _ q) (Nat.le_refl _) ⟨Nat.zero_le _, [], 0, .nil, Heap.get?_push_size _ rfl⟩
  have lt2 : ∀ b ∈ fp, b < s2.heap.objs.size := fun b hb => by obtain ⟨o, e, _⟩ := T.obj 0 _ st b hb; exact Heap.lt_size e
  have lt3 : ∀ b ∈ fp, b < h3.objs.size := fun b hb => by rw [hC]; exact Nat.lt_succ_of_lt (lt2 b hb)
  have f3 : ∀ b ∈ fp, FpOk X pins (upd H2 s2.heap.objs.size (.lst [])) b := fun b hb => ⟨by rw [upd_ne (Nat.ne_of_lt (lt2 b hb))]; exact (f b hb).1, (f b hb).2⟩
  have k34 : ∀ b o, h3.get? b = some o → h₁.get? b = some o := fun b o e => hsb₁.extBut b o (Nat.ne_of_lt (Heap.lt_size e)) (Heap.get?_push_of_some _ e)
  have IB := inv_block O.S I3 f3 (fun b hb => lt3 b hb) O.loc (h' := h₁) (by simpa using hns₁) k34 (tk := s2.toks + ([] : List (Str × Value)).length)
  have st4 : tn 0 h₁ := T.keep _ _ _ st fun b hb o e => k34 b o (k23 b o e)
  have rB := r.block (ts := ts) nL
  have itB : ∀ (vs : List V) (E' : Ev) (σ' : St) (H' : Hp), Rel X.K (G.in E σ H2 s2.heap.objs.size vs) E' σ' H' → _ := fun vs E' σ' H' r' => itok _ E' σ' H' (in_le nL) r'
  have loop := comp_loop (X := X) (pos := pos) (iter := iter) (RR := Rr (.ref s2.heap.objs.size) h3.objs.size) (s3 := { s2 with heap := h3, toks := s2.toks }) (H3 := upd H2 s2.heap.objs.size (.lst [])) (C := h3.objs.size) calm hx O T itB hlen nL (fun σe He vs s1 Ie hL rps hσ sm => by
      obtain ⟨m, hns, _⟩ := Ie.loc
      have hns : s1.heap.Ns h3.objs.size m := hns
      have hCn : He h3.objs.size = none := Ie.free
      refine fin s2.heap.objs.size h3.objs.size He s1 m nL (Nat.ne_of_gt I3.lt) hns hCn (fun x c e z => ?_) (I3.nofs (Nat.le_refl _)) I3.sz (fun p hp z => ?_) (fun h' k => ?_) sm ⟨vs, hL, rps.mono (Same.refl _) fun b z => ?_⟩
      · obtain ⟨v, q⟩ := I3.cell x c e
        have := q.lt
        rw [z] at this
        exact absurd this (Nat.lt_irrefl _)
      · have := Heap.lt_size (I3.pin p hp).1
        rw [z] at this
        exact absurd this (Nat.lt_irrefl _)
      · have u : Un (frs X.stack) fp (upd H2 s2.heap.objs.size (.lst [])) He h3 h' := Un.post (C := h3.objs.size) Ie.base k fun b o e => Nat.ne_of_lt (Heap.lt_size e)
        refine I3.call' (s' := { s1 with heap := h' }) Ie.os u (HOk.post Ie.hok hCn k) Ie.bare fun b hb => ?_
        obtain ⟨_, q1, q2, q3, q4, q5⟩ := f3 b hb
        exact ⟨q3, q1, q4, q5⟩
      · rcases z with z | z
        · rcases ow_clr' (pr := G.pr) no hσ z with z | z
          · exact .inl (.inl z)
          · exact .inr z
        · exact .inl (.inr z))
    { s2 with heap := h₁, toks := s2.toks + ([] : List (Str × Value)).length } ds.length 0 (clrS ts σ) _ [] [] all (by simp) (Nat.zero_le _) IB st4 (fun b hb => (f3 b hb).1) upd_same Rps.nil rB (fun j hj => by rw [clrS_get, if_neg hj]) (same_upd nL) (Nat.le_refl _) (by simpa using hall) rfl
  exact codeAny_compStart_list loop (T.self _ 0 _ _ _ st4 loop)
theorem sn_comp (gd : Gd X) (hx : ∀ c, ¬ G.xc c) (hi : SI X G tg iter mi) (O : CompOk X G.xc elt tg ifs scope ts set mt me) (hs : ∀ x, foldedSetIterable iter X.env x = pure x := by intro _; rfl) : SN X G (.ListComp elt [⟨tg, iter, ifs, 0⟩] scope pos) (eComp ts set mi mt me) := by
  rintro pins s σ H Q I ⟨E, hr, f⟩
  unfold eComp at f
  split at f
  · rename_i no
    rw [eval_ListComp]
    have hclos : closureFor scope X.env = pure (clOf scope.names X.env []) := closure_eq fun p hp hf => I.ok.has p.1 (O.S.free p hp hf)
    refine wpAny_comprehension_free (use := none) rfl hs hclos O.S.kind (fun y hy hl => by rw [← hl]; exact O.S.names y hy) ?_
    refine thn (hi pins s σ H (fun J H1 => ∃ ds all, Same H H1 ∧ ItOk X.K (G.lock E σ H1) J ds ∧ ds.length ≤ 1000000 ∧ compL set mt me (clr ts E) ds = .ok all ∧ ∀ a H', Same H H' → H a = none → Own X.K H' (fun b => Ow G.pr E σ b ∨ b = a) (.lst all) a → Q (.ref a) H') I ⟨E, hr, (Fin.bind f).mono fun ds p J H1 s1 it => ?_⟩) fun v s1 h1 => thn h1 fun itv s2 zz => ?_
    · split at p
      · rename_i hl
        cases hc : compL set mt me (clr ts E) ds with
        | no => rw [hc] at p; exact p.elim
        | er c => rw [hc] at p; exact absurd p (hx c)
        | ok all => rw [hc] at p; exact ⟨ds, all, s1, it, hl, hc, p⟩
      · exact p.elim
    · obtain ⟨it, fp, tn, J, H2, e, I2, T, st, fo, ds, all, s12, ito, hl, hc, q⟩ := zz
      subst e
      refine comp_run (Rr := fun acc C => compPost (model X.prog X.w) X.A X.xe none (EP X pins σ Q) acc C) gd.calm hx O I2 T st fo (hr.same s12) ito hl no hc fun L C He s' m nL _ ns nC _ _ _ _ inv sm own => ?_
      refine ⟨m, ns, fun h' sb => ⟨.ref L, He, inv h' fun b o hb e => sb.extBut b o hb e, rfl, q L He (s12.trans sm) ?_ own⟩⟩
      cases z : H L with
      | none => rfl
      | some o => rw [s12 _ _ z] at nL; cases nL
  · exact f.elim
end
end M

set_option Elab.async false
set_option linter.all false
set_option maxRecDepth 100000
namespace M
open PySem PySem.Spec PyProof.Rows L2

theorem turnLaid {X : Cx} {pins : List (Addr × Obj)} {σ : St} {H : Hp} {s : Shared} {h' : Heap} {t' : Nat} {ch : List Addr} {T : Addr} {o : HO} (I : Inv X pins σ H s) (hch : ∀ b ∈ ch, FpOk X pins H b)
    (k : ∀ b o, b ∉ ch → s.heap.get? b = some o → h'.get? b = some o) (hT : s.heap.objs.size ≤ T) (new : ObjOk X.prog X.w (upd H T o) h' T o) : Inv X pins σ (upd H T o) { s with heap := h', toks := t' } := by
  have hnT : H T = none := I.hok.fresh hT
  have nT : ∀ b ob, s.heap.get? b = some ob → b ≠ T := fun b ob e => Nat.ne_of_lt (Nat.lt_of_lt_of_le (Heap.lt_size e) hT)
  have nit : ∀ b u, H b = some u → b ∉ ch := fun b u e z => by rw [(hch b z).1] at e; cases e
  refine I.step (g' := s.gens) (d' := s.drawn) (ch := ch) (fun b hb => ?_) (fun b o _ _ hc e _ => k b o hc e) (fun b o _ _ hc e _ => ⟨o.slots, k b o hc e⟩) (fun b ob _ e n => by rw [upd_ne (nT b ob e)]; exact n)
    (fun b o hc e => by
      exact ⟨o, k b o hc e⟩) (fun b xs e => by rw [upd_ne (ne_of_none e hnT)]; exact e) (fun b u xs e => by rw [upd_ne (ne_of_none e hnT)]; exact e) (fun b ps e => ⟨#[], by rw [upd_ne (ne_of_none e hnT), e]; simp⟩) (fun m hm => ?_) (fun b u e => ?_) I.bare
  · obtain ⟨_, q1, q2, q3, q4, q5⟩ := hch b hb
    exact ⟨q3, q1, q4, q5⟩
  · obtain ⟨ob, es, ep, ho, r⟩ := hm
    exact ⟨ob, es, ep, k _ ob (fun z => (hch _ z).2.1 rfl) ho, r⟩
  · by_cases hb : b = T
    · subst hb; rw [upd_same] at e; cases e; exact new
    · rw [upd_ne hb] at e
      refine (I.hok b u e).stay (fun c v hc q => k c v ?_ q) (fun c q => by rw [upd_ne (ne_of_none q hnT)]; exact q) fun c xs q => by rw [upd_ne (ne_of_none q hnT)]; exact q
      rcases hc with z | z
      · rw [z]; exact nit b u e
      · exact nit c _ z
noncomputable def Itz (K : PySem.W.Frag) (a b : Addr) : It :=
  ⟨fun i H => ∃ xs ys x y, SqL K H a xs ∧ SqL K H b ys ∧ xs[i]? = some x ∧ ys[i]? = some y,
   fun i H v H' => ∃ T x y, v = .ref T ∧ H T = none ∧ H' = upd H T (.tup [x, y]) ∧ (∀ xs, SqL K H a xs → xs[i]? = some x) ∧ ∀ ys, SqL K H b ys → ys[i]? = some y,
   fun i H => ∃ xs ys, SqL K H a xs ∧ SqL K H b ys ∧ i = min xs.length ys.length⟩
theorem turn_zip {P : Program} {w : World} {K : PySem.W.Frag} {elts : List Expr} {k : Nat} {pos : Pos} (a b z TI TO i1 i2 : Addr) (D : ZipApart z TI TO i1 i2 a b) :
    Turn P w K (.Tuple elts k pos) (Itz K a b) [z, TI, TO, i1, i2] z (fun i h => IsZip h z TI TO .none ∧ IsPair h TI (.ref i1) (.ref i2) ∧ (∃ u v, IsPair h TO u v) ∧ h.IsListIter i1 a i ∧ h.IsListIter i2 b i) where
  mem := by simp
  obj := fun i h st c hc => by
    obtain ⟨h1, h2, ⟨u, v, h3⟩, ⟨o4, e4, c4, d4⟩, ⟨o5, e5, c5, d5⟩⟩ := st
    simp only [List.mem_cons, List.not_mem_nil, or_false] at hc
    rcases hc with rfl | rfl | rfl | rfl | rfl
    · exact ⟨_, h1, fun v z => nomatch z⟩
    · exact ⟨_, h2, fun v z => nomatch z⟩
    · exact ⟨_, h3, fun v z => nomatch z⟩
    · exact ⟨_, e4, fun v z => by rw [d4] at z; cases z⟩
    · exact ⟨_, e5, fun v z => by rw [d5] at z; cases z⟩
  keep := fun i h h' st k => by
    obtain ⟨h1, h2, ⟨u, v, h3⟩, h4, h5⟩ := st
    exact ⟨k z (by simp) _ h1, k TI (by simp) _ h2, ⟨u, v, k TO (by simp) _ h3⟩, h4.at fun o e => k i1 (by simp) o e, h5.at fun o e => k i2 (by simp) o e⟩
  item := by
    intro X hP hw hK hc i pins s σ H E I hf st hg
    subst hP hw hK
    obtain ⟨xs, ys, x, y, hq1, hq2, hx, hy⟩ := hg
    obtain ⟨its1, rv1, p1, hz1⟩ := I.list hq1
    obtain ⟨its2, rv2, p2, hz2⟩ := I.list hq2
    obtain ⟨u1, hu1, ru1⟩ := rv1.get hx
    obtain ⟨u2, hu2, ru2⟩ := rv2.get hy
    obtain ⟨h1, h2, h3, h4, h5⟩ := st
    have W := WalksT.zip2 (prog := X.prog) (w := X.w) (A := X.A) (I.ok.hd hc) z TI TO i1 i2 a b D its1.toArray its2.toArray
    have l1 : i < its1.length := (List.getElem?_eq_some_iff.mp hu1).1
    have l2 : i < its2.length := (List.getElem?_eq_some_iff.mp hu2).1
    refine W.item i s _ E (by simp; omega) ⟨h1, h2, h3, h4, h5, p1.isList, p2.isList⟩ fun T vals h' tk hv hT hTu hM hk => ?_
    obtain ⟨v1, v2, e1, e2, rfl⟩ := hv
    have e1' : v1 = u1 := by
      have : its1[i]? = some v1 := by simpa using e1
      rw [hu1] at this; exact (Option.some.inj this).symm
    have e2' : v2 = u2 := by
      have : its2[i]? = some v2 := by simpa using e2
      rw [hu2] at this; exact (Option.some.inj this).symm
    subst e1' e2'
    refine ⟨.ref T, rfl, ?_⟩
    have hap := W.apart i T h' hM
    refine W.go elts k pos i T { s with heap := h', toks := tk } _ E hM fun h'' hst'' hk'' => ?_
    have nT : H T = none := I.hok.fresh hT
    obtain ⟨oT, eT, cT, nn, dT⟩ := hTu
    have eT' := hk'' T oT hap eT
    have sub : ∀ c, c ∉ [z, TI, TO, i1, i2] → c ∉ [z, TO, i1, i2] := fun c hc hc' => hc (by
      simp only [List.mem_cons, List.not_mem_nil, or_false] at hc' ⊢
      rcases hc' with h | h | h | h
      · exact .inl h
      · exact .inr (.inr (.inl h))
      · exact .inr (.inr (.inr (.inl h)))
      · exact .inr (.inr (.inr (.inr h))))
    have I' : Inv X pins σ (upd H T (.tup [x, y])) { s with heap := h'', toks := tk } := turnLaid I hf (fun c o hc e => hk'' c o (sub c hc) (hk c o (sub c hc) e)) hT
      ⟨by rw [sizeLine_eq]; simp, [v1, v2], .cons ru1 (.cons ru2 .nil), oT, eT', cT, nn, dT⟩
    obtain ⟨g1, g2, g3, g4, g5, _, _⟩ := hst''
    refine ⟨.ref T, _, I', rfl, ⟨T, x, y, rfl, nT, rfl, fun zs hz => by rw [I.list_inj hz hq1]; exact hx, fun zs hz => by rw [I.list_inj hz hq2]; exact hy⟩, ⟨g1, g2, g3, g4, g5⟩, fun c hc => ?_⟩
    have hlt : c < s.heap.objs.size := by
      obtain ⟨u, v, h3⟩ := h3
      obtain ⟨o4, e4, _⟩ := h4
      obtain ⟨o5, e5, _⟩ := h5
      simp only [List.mem_cons, List.not_mem_nil, or_false] at hc
      rcases hc with rfl | rfl | rfl | rfl | rfl
      · exact Heap.lt_size h1
      · exact Heap.lt_size h2
      · exact Heap.lt_size h3
      · exact Heap.lt_size e4
      · exact Heap.lt_size e5
    rw [upd_ne (Nat.ne_of_lt (Nat.lt_of_lt_of_le hlt hT))]
    exact (hf c hc).1
  done := by
    intro X hP hw hK hc i pins s σ H E I hf st hg
    subst hP hw hK
    obtain ⟨xs, ys, hq1, hq2, hi⟩ := hg
    obtain ⟨its1, rv1, p1, hz1⟩ := I.list hq1
    obtain ⟨its2, rv2, p2, hz2⟩ := I.list hq2
    obtain ⟨h1, h2, h3, h4, h5⟩ := st
    have W := WalksT.zip2 (prog := X.prog) (w := X.w) (A := X.A) (I.ok.hd hc) z TI TO i1 i2 a b D its1.toArray its2.toArray
    have en : min its1.toArray.size its2.toArray.size = i := by
      rw [hi, List.size_toArray, List.size_toArray, rv1.length, rv2.length]
    refine W.done s _ E (by rw [en]; exact ⟨h1, h2, h3, h4, h5, p1.isList, p2.isList⟩) fun h' tk hk => ⟨rfl, ?_⟩
    have nit : ∀ b u, H b = some u → b ∉ [z, TI, TO, i1, i2] := fun b u e q => by rw [(hf b q).1] at e; cases e
    have sub : ∀ c, c ∉ [z, TI, TO, i1, i2] → c ∉ [z, TO, i1, i2] := fun c hc hc' => hc (by
      simp only [List.mem_cons, List.not_mem_nil, or_false] at hc' ⊢
      rcases hc' with h | h | h | h
      · exact .inl h
      · exact .inr (.inr (.inl h))
      · exact .inr (.inr (.inr (.inl h)))
      · exact .inr (.inr (.inr (.inr h))))
    have k : ∀ b o, b ∉ [z, TI, TO, i1, i2] → s.heap.get? b = some o → h'.get? b = some o := fun b o hb e => hk b o (sub b hb) e
    refine I.step (g' := s.gens) (d' := s.drawn) (ch := [z, TI, TO, i1, i2]) (fun b hb => ?_) (fun b o _ _ hc e _ => k b o hc e) (fun b o _ _ hc e _ => ⟨o.slots, k b o hc e⟩) (fun b ob _ e n => n)
      (fun b o hc e => ⟨o, k b o hc e⟩) (fun b xs e => e) (fun b u xs e => e) (fun b ps e => ⟨#[], by rw [e]; simp⟩) (fun m hm => ?_) (fun b u e => ?_) I.bare
    · obtain ⟨_, q1, q2, q3, q4, q5⟩ := hf b hb
      exact ⟨q3, q1, q4, q5⟩
    · obtain ⟨ob, es, ep, ho, r⟩ := hm
      exact ⟨ob, es, ep, k _ ob (fun z => (hf _ z).2.1 rfl) ho, r⟩
    · refine (I.hok b u e).stay (fun c v hc q => k c v ?_ q) (fun c q => q) fun c xs q => q
      rcases hc with z | z
      · rw [z]; exact nit b u e
      · exact nit c _ z
  self := fun _ _ _ _ _ st h => wpAny_pyIter_zip st.1 h

section
variable {X : Cx} {G : Fc} {a b : Expr} {p pos tpos : Pos} {elts : List Expr} {tk : Nat}
noncomputable def iZip (K : PySem.W.Frag) (ta : TA) : TI := fun σ H Rr => ta σ H fun vs H1 => ∃ a b, vs = [.ref a, .ref b] ∧ (∃ xs, SqL K H1 a xs) ∧ (∃ ys, SqL K H1 b ys) ∧ Rr (Itz K a b) H1
theorem pi_zip {ta : TA} (hg : Gl X "zip") (hm : X.mg "zip" = none) (ha : PA X [a, b] ta) (hs : starEach [a, b] X.env = [(false, eval a X.env), (false, eval b X.env)] := by rfl) (hs2 : starEach [b] X.env = [(false, eval b X.env)] := by rfl) :
    PI X (.Tuple elts tk tpos) (.Call (.Name "zip" p) [a, b] [] pos) (iZip X.K ta) := by
  intro pins s σ H Rr I h
  refine Call_ (ld_blt I hg hm boot_zip (PyProof.Rows.callWith_type1 (thn (ha pos pins s σ H _ I h) fun us s1 ⟨vs, H1, I1, r1, q1⟩ => ?_) (by rw [hs, hs2]) (by rw [hs2]; rfl)))
  obtain ⟨l1, l2, e, ⟨xs, hx⟩, ⟨ys, hy⟩, q⟩ := q1
  subst e
  cases r1 with
  | cons r rr =>
    cases rr with
    | cons r' rr =>
      cases rr
      cases r
      cases r'
      obtain ⟨its1, rv1, p1, hz1⟩ := I1.list hx
      obtain ⟨its2, rv2, p2, hz2⟩ := I1.list hy
      have hlt1 : l1 < s1.heap.objs.size := by obtain ⟨o, e, _⟩ := p1.isList; exact Heap.lt_size e
      have hlt2 : l2 < s1.heap.objs.size := by obtain ⟨o, e, _⟩ := p2.isList; exact Heap.lt_size e
      refine call_zip_2 p1.isList p2.isList fun h' hz hTI hTO hi1 hi2 hsz hk => ?_
      refine wpAny_pyIter_zip hz ?_
      have D : ZipApart (s1.heap.objs.size + 4) (s1.heap.objs.size + 2) (s1.heap.objs.size + 3) s1.heap.objs.size (s1.heap.objs.size + 1) l1 l2 := PySem.W.ktu_apart _ _ _ hlt1 hlt2
      refine ⟨_, [s1.heap.objs.size + 4, s1.heap.objs.size + 2, s1.heap.objs.size + 3, s1.heap.objs.size, s1.heap.objs.size + 1], _, _, H1, rfl, I1.kept (t' := s1.toks) hk, turn_zip l1 l2 _ _ _ _ _ D, ⟨hz, hTI, ⟨_, _, hTO⟩, hi1, hi2⟩, fun c hc => ?_, q⟩
      have hge : s1.heap.objs.size ≤ c := by
        simp only [List.mem_cons, List.not_mem_nil, or_false] at hc
        rcases hc with rfl | rfl | rfl | rfl | rfl
        · exact Nat.le_add_right _ _
        · exact Nat.le_add_right _ _
        · exact Nat.le_add_right _ _
        · exact Nat.le_refl _
        · exact Nat.le_add_right _ _
      exact I1.fpOk hge (I1.hok.fresh hge)
noncomputable def iZ (ma mb : EV) : Ev → R (List D) := fun E => ma E >>= fun x => mb E >>= fun y => match x, y with
  | .lst xs, .lst ys => .ok (List.zipWith (fun a b => D.tup [a, b]) xs ys)
  | _, _ => .no
theorem si_zip {ma mb : EV} (hg : Gl X "zip") (hm : X.mg "zip" = none) (ha : SF X G a ma) (hb : SF X G b mb) (hs : starEach [a, b] X.env = [(false, eval a X.env), (false, eval b X.env)] := by rfl) (hs2 : starEach [b] X.env = [(false, eval b X.env)] := by rfl) :
    SI X G (.Tuple elts tk tpos) (.Call (.Name "zip" p) [a, b] [] pos) (iZ ma mb) :=
  (pi_zip hg hm (pa_cons ha (pa_cons hb pa_nil hs2) (by rw [hs, hs2])) hs hs2).imp fun σ H Q z0 => z0.elim fun E z0 => z0.elim fun hr f => ⟨E, hr, (Fin.bind f).mono fun d p v H1 s1 z => ⟨E, hr.same s1, (Fin.bind p).mono fun e p w H2 s2 y => by
    cases d with
    | lst xs =>
      cases e with
      | lst ys =>
        have z := z.mono s2 fun _ q => q
        unfold Rp at z y
        obtain ⟨l1, vs, rfl, no1, h1, r1⟩ := z
        obtain ⟨l2, ws, rfl, no2, h2, r2⟩ := y
        refine ⟨l1, l2, rfl, ⟨vs, SqL.of h1⟩, ⟨ws, SqL.of h2⟩, p _ H2 (s1.trans s2) fun G' E' σ' H' le r' => ?_⟩
        have h1' := (locked le r' _ _ no1 h1).1
        have h2' := (locked le r' _ _ no2 h2).1
        refine ⟨⟨vs, ws, SqL.of h1', SqL.of h2', by rw [List.length_zipWith, r1.length, r2.length]⟩, fun i d hd => ?_⟩
        have hd' : ∃ dx dy, xs[i]? = some dx ∧ ys[i]? = some dy ∧ d = .tup [dx, dy] := by
          rw [List.getElem?_zipWith] at hd
          cases e1 : xs[i]? with
          | none => rw [e1] at hd; simp at hd
          | some dx =>
            cases e2 : ys[i]? with
            | none => rw [e1, e2] at hd; simp at hd
            | some dy => rw [e1, e2] at hd; simp at hd; exact ⟨dx, dy, rfl, rfl, hd.symm⟩
        obtain ⟨dx, dy, e1, e2, rfl⟩ := hd'
        obtain ⟨vx, hvx, px⟩ := r1.get e1
        obtain ⟨vy, hvy, py⟩ := r2.get e2
        refine ⟨⟨vs, ws, vx, vy, SqL.of h1', SqL.of h2', hvx, hvy⟩, ?_⟩
        rintro x H'' ⟨T, ux, uy, ex, nT, eH, q1, q2⟩
        subst ex eH
        have a1 := q1 vs (SqL.of h1')
        have a2 := q2 ws (SqL.of h2')
        rw [hvx] at a1; cases a1
        rw [hvy] at a2; cases a2
        refine ⟨same_upd nT, ?_⟩
        unfold Rp
        refine ⟨T, [vx, vy], rfl, r'.fresh nT, upd_same, Rps.cons ?_ (Rps.cons ?_ Rps.nil)⟩
        · exact (px.move (locked le r')).mono (same_upd nT) fun _ q => q
        · exact (py.move (locked le r')).mono (same_upd nT) fun _ q => q
      | _ => exact p.elim
    | _ => exact p.elim⟩⟩
end
end M

set_option Elab.async false
set_option linter.all false
set_option maxRecDepth 100000
namespace M
open PySem PySem.Spec PyProof.Rows L2

noncomputable def CallD (K : PySem.W.Frag) (r : List V → Hp → VK → Prop) (f : D → Option D) : Prop :=
  ∀ (H : Hp) (O : Addr → Prop) (dx d : D) (v : V) (Q : VK), Sane H O → f dx = some d → Rt K H O dx v → (∀ u H', Same H H' → Rp K H' O d u → Q u H') → r [v] H Q
noncomputable def CallN (K : PySem.W.Frag) (r : List V → Hp → VK → Prop) (f : D → Option D) : Prop :=
  ∀ (H : Hp) (O : Addr → Prop) (dx d : D) (v : V) (Q : VK), Sane H O → f dx = some d → Rt K H O dx v → (∀ a H', Same H H' → H a = none → Own K H' (fun b => O b ∨ b = a) d a → Q (.ref a) H') → r [v] H Q
section
variable {X : Cx} {G : Fc} {r : List V → Hp → VK → Prop} {f : D → Option D} {x : Str} {p pos : Pos} {e : Expr} {m : EV}
theorem sf_callB {id : String} (hc : CallR X (.builtin id) r) (hf : CallD X.K r f) (hg : Gl X x) (hm : X.mg x = none) (hv : bootBuiltins x = some (.builtin id)) (he : SE X G e m) (hn : x ≠ "__name__" := by decide) (hdb : (x == ("__debug__" : Str)) = false := by decide)
    (hs : starEach [e] X.env = (false, eval e X.env) :: starEach [] X.env := by rfl) (hpl : (backTo pos (starEach [] X.env)).any (·.1) = false := by rfl) : SF X G (.Call (.Name x p) [e] [] pos) (e1 f m) :=
  (pe_callB hc hg hm hv (pa_cons he pa_nil hs) hn hdb hs hpl).imp fun σ H Q z0 => z0.elim fun E z0 => z0.elim fun hr h => ⟨E, hr, (Fin.bind h).mono fun dx fx v H1 s1 p1 => by
    obtain ⟨d, e, q⟩ := Fin.of fx
    exact hf H1 _ dx d v Q (hr.same s1).sane e p1 fun u H' s z => q u H' (s1.trans s) z⟩
theorem sn_callB {id : String} (hc : CallR X (.builtin id) r) (hf : CallN X.K r f) (hg : Gl X x) (hm : X.mg x = none) (hv : bootBuiltins x = some (.builtin id)) (he : SE X G e m) (hn : x ≠ "__name__" := by decide) (hdb : (x == ("__debug__" : Str)) = false := by decide)
    (hs : starEach [e] X.env = (false, eval e X.env) :: starEach [] X.env := by rfl) (hpl : (backTo pos (starEach [] X.env)).any (·.1) = false := by rfl) : SN X G (.Call (.Name x p) [e] [] pos) (e1 f m) :=
  (pe_callB hc hg hm hv (pa_cons he pa_nil hs) hn hdb hs hpl).imp fun σ H Q z0 => z0.elim fun E z0 => z0.elim fun hr h => ⟨E, hr, (Fin.bind h).mono fun dx fx v H1 s1 p1 => by
    obtain ⟨d, e, q⟩ := Fin.of fx
    refine hf H1 _ dx d v Q (hr.same s1).sane e p1 fun a H' s n z => q a H' (s1.trans s) ?_ z
    cases w : H a with
    | none => rfl
    | some o => rw [s1 _ _ w] at n; cases n⟩
theorem sn_callT {T : String} (hc : CallR X (.type T) r) (hf : CallN X.K r f) (hg : Gl X x) (hm : X.mg x = none) (hv : bootBuiltins x = some (.type T)) (he : SE X G e m) (hn : x ≠ "__name__" := by decide) (hdb : (x == ("__debug__" : Str)) = false := by decide)
    (hs : starEach [e] X.env = (false, eval e X.env) :: starEach [] X.env := by rfl) (hpl : (backTo pos (starEach [] X.env)).any (·.1) = false := by rfl) : SN X G (.Call (.Name x p) [e] [] pos) (e1 f m) :=
  (pe_callTy hc hg hm hv (pa_cons he pa_nil hs) hn hdb hs hpl).imp fun σ H Q z0 => z0.elim fun E z0 => z0.elim fun hr h => ⟨E, hr, (Fin.bind h).mono fun dx fx v H1 s1 p1 => by
    obtain ⟨d, e, q⟩ := Fin.of fx
    refine hf H1 _ dx d v Q (hr.same s1).sane e p1 fun a H' s n z => q a H' (s1.trans s) ?_ z
    cases w : H a with
    | none => rfl
    | some o => rw [s1 _ _ w] at n; cases n⟩
end

theorem meets_len_H {prog : Program} {w : World} {K : Type} [DecidableEq K] (knd : HeapKind prog w K) (d : Addr) (hd : (d == sysModules) = false) :
    MeetsIn prog w (Builtin.«dict.__len__» ⟨[.ref d], []⟩) (fun _ R s => ∃ kvs : List (K × Addr × Value), s.heap.DictOfH knd d kvs ∧ R (.ok (.ret (.int kvs.length s.toks))) { s with toks := s.toks + 1 }) :=
  .of_wp fun A R s ⟨kvs, hm, h⟩ => by
    obtain ⟨o, es, ep, ho, hc, hdat, hk, hp⟩ := hm
    show wpAny _ _ (dictSize d >>= _) _ _ s
    unfold dictSize
    refine wpAny_bind (wpAny_bind (wpAny_dictEntries ho hdat (wpAny_pure ?_)))
    show wpAny _ _ (Builtin.Dict.pendingCount d >>= _) _ _ s
    refine wpAny_bind (wpAny_pendingCount_other hd ?_)
    refine wpAny_ret_mkInt ?_
    have : es.size = kvs.length := by
      have := congrArg List.length hk
      simpa using this
    rw [Nat.add_zero, this]; exact h
theorem call_len_H {prog : Program} {w : World} {A : Around} {E : Value → Shared → Prop} {s : Shared} {K : Type} [DecidableEq K] {knd : HeapKind prog w K} {d : Addr} {kvs : List (K × Addr × Value)} {Q : Value → Shared → Prop} (hd : (d == sysModules) = false) (hm : s.heap.DictOfH knd d kvs) (hfit : (kvs.length : Int) < 2 ^ 63)
    (h : Q (.int kvs.length (s.toks + 1)) { s with toks := s.toks + 1 + 1 }) : wpAny (model prog w) A (call (.builtin "len") [.ref d]) Q E s := by
  refine Calls.call_function_entry kind_len plain_len entry_len (args_len1 _) ?_
  unfold Builtin.«len»
  refine wpAny_bind (m := oneArg "len" _) (wpAny_pure ?_)
  refine wpAny_bind (m := callSpecial? (.ref d) (Str.ofString "__len__")) (wpAny_callSpecial?_slot (name := Str.ofString "__len__") hm.typeIs F.slot_dict_len
    (call_meetsIn F.slot_dict_len hm.typeIs F.entry_dict_len (F.args_dict_len_1 _) (meets_len_H knd d hd) ⟨kvs, hm, ?_⟩))
  show wpAny _ _ _ _ _ { s with toks := s.toks + 1 }
  refine wpAny_bind (wpAny_holding (wpAny_pure ?_))
  refine wpAny_bind (wpAny_letGo ?_)
  show wpAny _ _ (if ((kvs.length : Nat) : Int) < 0 then _ else _) _ _ _
  rw [if_neg (by omega)]
  show wpAny _ _ (if ((kvs.length : Nat) : Int) ≥ 2 ^ 63 then _ else _) _ _ _
  rw [if_neg (by omega)]
  exact wpAny_bind (wpAny_mkInt (wpAny_pure ⟨_, rfl, h⟩))
section
variable {X : Cx}
theorem call_lenT : CallR X (.builtin "len") (fun xs H Q => ∃ a kvs, xs = [V.ref a] ∧ Rd H a (.dT kvs) ∧ Q (.int kvs.length) H) := by
  intro pins s σ H xs us Q I r h
  obtain ⟨a, kvs, rfl, ha, q⟩ := h
  obtain ⟨u, rfl, ru⟩ := vals1 r
  cases ru
  obtain ⟨z, hd, ys, rel, dd⟩ := dt_rd I.hok ha
  have hl : ys.length = kvs.length := (Paired.length rel).symm
  refine call_len_H hd dd (by rw [hl]; rw [sizeLine_eq] at z; omega) ?_
  rw [hl]
  exact ⟨.int kvs.length, H, I.tok _, ⟨_, rfl⟩, q⟩
noncomputable def rLen (K : PySem.W.Frag) : List V → Hp → VK → Prop := fun xs H Q => (∃ p ys, xs = [.ref p] ∧ (SqL K H p ys ∨ SqT K H p ys) ∧ Q (.int ys.length) H) ∨ (∃ z, xs = [.str z] ∧ z.length ≤ sizeLine ∧ Q (.int z.length) H) ∨ (∃ a kvs, xs = [V.ref a] ∧ Rd H a (.dT kvs) ∧ Q (.int kvs.length) H)
theorem call_len : CallR X (.builtin "len") (rLen X.K) := call_len_seq.or (call_len_str.or call_lenT)
noncomputable def fLen : D → Option D
  | .lst ds => some (.int ds.length)
  | .tup ds => some (.int ds.length)
  | .scr ns => some (.int ns.length)
  | .dic kvs => some (.int kvs.length)
  | .str z => if z.length ≤ 1000000 then some (.int z.length) else none
  | _ => none
theorem cd_len {K : PySem.W.Frag} : CallD K (rLen K) fLen := fun H O dx d v Q fr e rx q => by
  cases dx with
  | lst ds =>
    cases e
    obtain ⟨a, vs, rfl, h1, r1⟩ := rx.lst
    exact .inl ⟨a, vs, rfl, .inl (SqL.of h1), by rw [r1.length]; exact q _ H (Same.refl _) (by unfold Rp; rfl)⟩
  | tup ds =>
    cases e
    obtain ⟨a, vs, rfl, h1, r1⟩ := rx.tup
    exact .inl ⟨a, vs, rfl, .inr (SqT.of h1), by rw [r1.length]; exact q _ H (Same.refl _) (by unfold Rp; rfl)⟩
  | scr ns =>
    cases e
    rcases rx with rx | ⟨_, _, h⟩
    · obtain ⟨a, rfl, h1⟩ := rx.scr
      exact .inl ⟨a, _, rfl, .inl h1, by rw [List.length_map]; exact q _ H (Same.refl _) (by unfold Rp; rfl)⟩
    · exact h.elim
  | dic kvs =>
    cases e
    obtain ⟨a, ws, rfl, h1, r1⟩ := rx.dic
    exact .inr (.inr ⟨a, ws, rfl, h1, by rw [r1.length]; exact q _ H (Same.refl _) (by unfold Rp; rfl)⟩)
  | str z =>
    simp only [fLen] at e
    split at e
    · rename_i hz
      cases e
      exact .inr (.inl ⟨z, by rw [rx.str], by rw [sizeLine_eq]; omega, q _ H (Same.refl _) (by unfold Rp; rfl)⟩)
    · cases e
  | _ => cases e
noncomputable def rList (K : PySem.W.Frag) : List V → Hp → VK → Prop := fun xs H Q => ∃ p ys, xs = [.ref p] ∧ (SqL K H p ys ∨ SqT K H p ys) ∧ ∀ l, H l = none → Q (.ref l) (upd H l (.lst ys))
theorem call_list : CallR X (.type "list") (rList X.K) := call_list_of
noncomputable def fList : D → Option D
  | .lst ds => some (.lst ds)
  | .tup ds => some (.lst ds)
  | _ => none
theorem cn_list {K : PySem.W.Frag} : CallN K (rList K) fList := fun H O dx d v Q fr e rx q => by
  cases dx with
  | lst ds =>
    cases e
    obtain ⟨a, vs, rfl, h1, r1⟩ := rx.lst
    exact ⟨a, vs, rfl, .inl (SqL.of h1), fun l hl => q l _ (same_upd hl) hl ⟨vs, upd_same, (r1.fresh hl).mono (same_upd hl) fun _ z => z⟩⟩
  | tup ds =>
    cases e
    obtain ⟨a, vs, rfl, h1, r1⟩ := rx.tup
    exact ⟨a, vs, rfl, .inr (SqT.of h1), fun l hl => q l _ (same_upd hl) hl ⟨vs, upd_same, (r1.fresh hl).mono (same_upd hl) fun _ z => z⟩⟩
  | _ => cases e
theorem walk_bools {pins : List (Addr × Obj)} {σ : St} {H : Hp} {s : Shared} {p : Addr} {bs : List Bool} {E : Value → Shared → Prop} (hc : X.calm = true) (I : Inv X pins σ H s) (h : SqL X.K H p (bs.map V.bl)) {Qz : Bool → Value → Shared → Prop} (neg : Bool)
    (q : ∀ s', Inv X pins σ H s' → Qz neg (.bool (if neg then bs.any id else bs.all id)) s') :
    wpAny (model X.prog X.w) X.A.in1 (pyIter (.ref p)) (fun it s₂ => ∃ I fp wr n P St tr, it = .ref I ∧ Walks X.prog X.w X.A.in1 I fp wr n P St ∧ St 0 s₂.heap ∧ TruthOf X.prog X.w X.A.in1 P tr ∧
      ∀ h' tk, (∀ b o, b ∉ wr → s₂.heap.get? b = some o → h'.get? b = some o) → Qz neg (.bool (if neg then (List.range n).any tr else (List.range n).all tr)) { s₂ with heap := h', toks := tk }) E s := by
  obtain ⟨its, rv, pl, hz⟩ := I.list h
  have hl : its.length = bs.length := by rw [← rv.length]; simp
  have hp : p ≠ s.heap.objs.size := by obtain ⟨o, e, _⟩ := pl.isList; exact Nat.ne_of_lt (Heap.lt_size e)
  have at' : ∀ (i : Nat) (v : Value), its.toArray[i]? = some v → ∃ b, bs[i]? = some b ∧ v = .bool b := fun i v e => by
    have e : its[i]? = some v := by simpa using e
    have hi : i < bs.length := by rw [← hl]; exact (List.getElem?_eq_some_iff.mp e).1
    obtain ⟨u, e1, r1⟩ := rv.get (i := i) (x := .bl bs[i]) (by simp [hi])
    rw [e] at e1; cases e1
    exact ⟨bs[i], by simp [hi], r1⟩
  refine wpAny_pyIter_list pl.isList ⟨s.heap.objs.size, _, _, _, _, _, fun i => bs.getD i false, rfl, Walks.list (by show X.A.handled = none; exact I.ok.hd hc) _ p hp its.toArray, ⟨⟨_, Heap.get?_push_size _ rfl, rfl, rfl⟩, pl.isList.at fun o e => Heap.get?_push_of_some _ e⟩, ?_, fun h' tk k => ?_⟩
  · intro i v s' Q' E' hP hQ
    obtain ⟨b, e1, rfl⟩ := at' i v hP
    refine wpAny_truthy_bool ?_
    dsimp only at hQ
    rw [List.getD_eq_getElem?_getD, e1] at hQ
    exact hQ
  · have I' : Inv X pins σ H { s with heap := h', toks := tk } := I.kept fun b o e => k b o (by
      have := Heap.lt_size e
      simp only [List.mem_cons, List.not_mem_nil, or_false]
      exact Nat.ne_of_lt this) (Heap.get?_push_of_some _ e)
    have e1 : (List.range its.toArray.size).any (fun i => bs.getD i false) = bs.any id := by
      rw [List.size_toArray, hl]
      conv => rhs; rw [← range_getD bs false]
      rw [List.any_map]; rfl
    have e2 : (List.range its.toArray.size).all (fun i => bs.getD i false) = bs.all id := by
      rw [List.size_toArray, hl]
      conv => rhs; rw [← range_getD bs false]
      rw [List.all_map]; rfl
    rw [e1, e2]
    exact q _ I'
noncomputable def rAll (K : PySem.W.Frag) : List V → Hp → VK → Prop := fun xs H Q => ∃ (p : Addr) (bs : List Bool), xs = [.ref p] ∧ SqL K H p (bs.map V.bl) ∧ Q (.bl (bs.all id)) H
theorem call_allL (hc : X.calm = true) : CallR X (.builtin "all") (rAll X.K) := by
  intro pins s σ H xs us Q I r h
  obtain ⟨p, bs, rfl, hp, q⟩ := h
  obtain ⟨u, rfl, ru⟩ := vals1 r
  cases ru
  refine call_all_walk ?_
  exact walk_bools (Qz := fun _ => EP X pins σ Q) hc I hp false fun s' I' => ⟨.bl _, H, I', rfl, q⟩
noncomputable def bls : List D → Option (List Bool)
  | [] => some []
  | .bl b :: r => (bls r).map (b :: ·)
  | _ :: _ => none
theorem bls_some : ∀ {ds : List D} {bs : List Bool}, bls ds = some bs → ds = bs.map D.bl
  | [], bs, h => by simp [bls] at h; subst h; rfl
  | .bl i :: r, ns, h => by
    simp only [bls, Option.map_eq_some_iff] at h
    obtain ⟨ms, h1, rfl⟩ := h
    rw [bls_some h1]; rfl
  | .non :: r, ns, h => by simp [bls] at h
  | .int _ :: r, ns, h => by simp [bls] at h
  | .str _ :: r, ns, h => by simp [bls] at h
  | .tup _ :: r, ns, h => by simp [bls] at h
  | .lst _ :: r, ns, h => by simp [bls] at h
  | .dic _ :: r, ns, h => by simp [bls] at h
  | .scr _ :: r, ns, h => by simp [bls] at h
@[simp] theorem bls_map : ∀ bs : List Bool, bls (bs.map D.bl) = some bs
  | [] => rfl
  | n :: ns => by simp [bls, bls_map ns]
theorem Rps.bls {K : PySem.W.Frag} {H : Hp} {O : Addr → Prop} : ∀ {ns : List Bool} {vs : List V}, Rps K H O (ns.map D.bl) vs → vs = ns.map V.bl
  | [], vs, h => by unfold Rps at h; exact h
  | n :: ns, vs, h => by
    unfold Rps at h
    obtain ⟨v, r, rfl, p, q⟩ := h
    unfold Rp at p
    rw [p, Rps.bls q]; rfl
noncomputable def fAll : D → Option D
  | .lst ds => (bls ds).map fun bs => .bl (bs.all id)
  | _ => none
theorem cd_all {K : PySem.W.Frag} : CallD K (rAll K) fAll := fun H O dx d v Q fr e rx q => by
  cases dx with
  | lst ds =>
    simp only [fAll, Option.map_eq_some_iff] at e
    obtain ⟨bs, e, rfl⟩ := e
    obtain ⟨a, vs, rfl, h1, r1⟩ := rx.lst
    rw [bls_some e] at r1
    exact ⟨a, bs, rfl, SqL.of (by rw [← r1.bls]; exact h1), q _ H (Same.refl _) (by unfold Rp; rfl)⟩
  | _ => cases e
end
end M

set_option Elab.async false
set_option linter.all false
set_option maxRecDepth 100000
namespace M
open PySem PySem.W PySem.Spec PyProof.Rows L2

structure LtOk (lt : Nat → Nat → Bool) : Prop where
  refl : ∀ a, lt a a = false
  tr : ∀ {a b c}, lt b a = false → lt c b = false → lt c a = false
  as : ∀ {a b}, lt a b = true → lt b a = false
noncomputable def _root_.PySem.W.KasT.kgo {α : Type} (n : Nat) (lt : Nat → Nat → Bool) (P : α → Prop) : KasT α → Prop
  | .ret a => P a
  | .ask i j k => i < n ∧ j < n ∧ (k (lt i j)).kgo n lt P
section
variable {n : Nat} {lt : Nat → Nat → Bool}
theorem kgo_bind {α β : Type} {f : α → KasT β} {P : β → Prop} : ∀ {t : KasT α}, t.kgo n lt (fun a => (f a).kgo n lt P) → (t.bind f).kgo n lt P
  | .ret _, h => h
  | .ask i j k, h => ⟨h.1, h.2.1, kgo_bind (t := k (lt i j)) h.2.2⟩
theorem kgo_mono {α : Type} {P Q : α → Prop} (pq : ∀ a, P a → Q a) : ∀ {t : KasT α}, t.kgo n lt P → t.kgo n lt Q
  | .ret _, h => pq _ h
  | .ask i j k, h => ⟨h.1, h.2.1, kgo_mono pq (t := k (lt i j)) h.2.2⟩
theorem kgo_wp {α : Type} {cmp : Nat → Nat → (Bool → Shared → Prop) → Shared → Prop} {s : Shared} {P : α → Prop} {Q : α → Shared → Prop} (hc : ∀ i j C, i < n → j < n → C (lt i j) s → cmp i j C s) (pq : ∀ a, P a → Q a s) : ∀ {t : KasT α}, t.kgo n lt P → t.kasWp cmp Q s
  | .ret _, h => pq _ h
  | .ask i j k, h => hc i j _ h.1 h.2.1 (kgo_wp hc pq (t := k (lt i j)) h.2.2)
noncomputable def Pm (n : Nat) (p : Array Nat) : Prop := p.Perm (List.range n).toArray
theorem Pm.size {p : Array Nat} (h : Pm n p) : p.size = n := by have := h.size_eq; simpa using this
theorem Pm.bd {p : Array Nat} (h : Pm n p) (h1 : 1 ≤ n) (i : Nat) : p.getD i 0 < n := by
  by_cases hi : i < p.size
  · have hm : p[i] ∈ p := Array.getElem_mem hi
    have : p[i] ∈ (List.range n).toArray := (h.mem_iff).mp hm
    simp at this
    simpa [Array.getD, hi] using this
  · simp [Array.getD, hi]; omega
noncomputable def Sd (lt : Nat → Nat → Bool) (p : Array Nat) (m : Nat) : Prop := ∀ i j, i ≤ j → j < m → lt (p.getD j 0) (p.getD i 0) = false
noncomputable def Sf (lt : Nat → Nat → Bool) (p : Array Nat) (m : Nat) : Prop := ∀ i j, i ≤ j → j < m → lt (p.getD i 0) (p.getD j 0) = false
noncomputable def Eqv (lt : Nat → Nat → Bool) (a b : Nat) : Prop := lt a b = false ∧ lt b a = false
variable (L : LtOk lt)
include L
theorem Eqv.l {a b c : Nat} (e : Eqv lt a b) (h : lt c a = false) : lt c b = false := L.tr e.1 h
theorem Eqv.r {a b c : Nat} (e : Eqv lt a b) (h : lt a c = false) : lt b c = false := L.tr h e.2
theorem Sf.eqv {p q : Array Nat} {m : Nat} (h : Sf lt p m) (e : ∀ k, k < m → Eqv lt (p.getD k 0) (q.getD k 0)) : Sf lt q m := fun i j hij hj =>
  Eqv.r L (e i (by omega)) (Eqv.l L (e j hj) (h i j hij hj))
theorem asc_ok {p : Array Nat} (hp : Pm n p) (h1 : 1 ≤ n) : ∀ (f m : Nat), 1 ≤ m → m + f ≤ n → Sd lt p m → (kas_asc p f m).kgo n lt fun r => m ≤ r ∧ r ≤ m + f ∧ Sd lt p r ∧ (r < m + f → lt (p.getD r 0) (p.getD (r - 1) 0) = true)
  | 0, m, _, _, hs => ⟨Nat.le_refl _, Nat.le_refl _, hs, fun h => absurd h (Nat.lt_irrefl _)⟩
  | f + 1, m, hm, hf, hs => by
    refine ⟨hp.bd h1 _, hp.bd h1 _, ?_⟩
    cases c : lt (p.getD m 0) (p.getD (m - 1) 0) with
    | true => dsimp only; rw [if_pos rfl]; exact ⟨Nat.le_refl _, by omega, hs, fun _ => c⟩
    | false =>
      dsimp only
      rw [if_neg Bool.false_ne_true]
      refine kgo_mono (fun r ⟨q1, q2, q3, q4⟩ => ⟨by omega, by omega, q3, fun h => q4 (by omega)⟩) (asc_ok hp h1 f (m + 1) (by omega) (by omega) fun i j hij hj => ?_)
      by_cases hjm : j < m
      · exact hs i j hij hjm
      · have : j = m := by omega
        subst this
        by_cases hi : i = j
        · subst hi; exact L.refl _
        · exact L.tr (hs i (j - 1) (by omega) (by omega)) c
theorem rev_get {p : Array Nat} {i j : Nat} (hj : j ≤ p.size) (k : Nat) : (kas_rev p i j).getD k 0 = if i ≤ k ∧ k < j then p.getD (i + j - 1 - k) 0 else p.getD k 0 := by
  unfold kas_rev
  have := getElem?_mirror_all (xs := p) (i := i) hj k
  rw [Array.getD_eq_getD_getElem?, this]
  split
  · rw [Array.getD_eq_getD_getElem?]
  · rw [Array.getD_eq_getD_getElem?]
omit L in
theorem rev_pm {p : Array Nat} {i j : Nat} (hp : Pm n p) : Pm n (kas_rev p i j) := (mirror_perm p i j _).trans hp
theorem rev_eqv {p : Array Nat} {i j : Nat} (hj : j ≤ p.size) (e : ∀ a b, i ≤ a → a < j → i ≤ b → b < j → lt (p.getD a 0) (p.getD b 0) = false) (k : Nat) : Eqv lt (p.getD k 0) ((kas_rev p i j).getD k 0) := by
  rw [rev_get L hj]
  split
  · rename_i h
    exact ⟨e _ _ (by omega (config := {})) (by omega (config := {})) (by omega (config := {})) (by omega (config := {})), e _ _ (by omega (config := {})) (by omega (config := {})) (by omega (config := {})) (by omega (config := {}))⟩
  · exact ⟨L.refl _, L.refl _⟩
theorem desc_ok (h1 : 1 ≤ n) : ∀ (f : Nat) (p : Array Nat) (m q : Nat), Pm n p → Sf lt p m → q + 1 ≤ m → (∀ a b, m - (q + 1) ≤ a → a < m → m - (q + 1) ≤ b → b < m → lt (p.getD a 0) (p.getD b 0) = false) → m + f ≤ n →
    (kas_desc f p m q).kgo n lt fun r => Pm n r.1 ∧ Sf lt r.1 r.2.1 ∧ m ≤ r.2.1 ∧ r.2.1 ≤ m + f ∧ r.2.2 + 1 ≤ r.2.1 ∧ ∀ a b, r.2.1 - (r.2.2 + 1) ≤ a → a < r.2.1 → r.2.1 - (r.2.2 + 1) ≤ b → b < r.2.1 → lt (r.1.getD a 0) (r.1.getD b 0) = false
  | 0, p, m, q, hp, hs, hq, he, _ => ⟨hp, hs, Nat.le_refl _, Nat.le_refl _, hq, he⟩
  | f + 1, p, m, q, hp, hs, hq, he, hf => by
    refine ⟨hp.bd h1 _, hp.bd h1 _, ?_⟩
    have step : ∀ {p' : Array Nat}, (∀ k, k < m → Eqv lt (p.getD k 0) (p'.getD k 0)) → p'.getD m 0 = p.getD m 0 → lt (p.getD m 0) (p.getD (m - 1) 0) = true → Sf lt p' (m + 1) := fun {p'} e em c i j hij hj => by
      by_cases hjm : j < m
      · exact Sf.eqv L hs e i j hij hjm
      · have : j = m := by omega
        subst this
        by_cases hi : i = j
        · subst hi; exact L.refl _
        · rw [em]
          refine Eqv.r L (e i (by omega)) ?_
          exact L.tr (L.as c) (hs i (j - 1) (by omega) (by omega))
    have wk : ∀ {P Q : Array Nat × Nat × Nat → Prop}, (∀ r, P r → Q r) → ∀ {t : KasT (Array Nat × Nat × Nat)}, t.kgo n lt P → t.kgo n lt Q := fun pq _ h => kgo_mono pq h
    cases c : lt (p.getD m 0) (p.getD (m - 1) 0) with
    | true =>
      dsimp only
      rw [if_pos rfl]
      by_cases hq0 : q > 0
      · rw [if_pos hq0]
        have hsz : m ≤ p.size := by rw [hp.size]; omega
        have ev := rev_eqv L (i := m - (q + 1)) hsz he
        have em : (kas_rev p (m - (q + 1)) m).getD m 0 = p.getD m 0 := by rw [rev_get L hsz, if_neg (by omega)]
        refine wk (fun r ⟨q1, q2, q3, q4, q5, q6⟩ => ⟨q1, q2, by omega, by omega, q5, q6⟩) (desc_ok h1 f _ (m + 1) 0 (rev_pm hp) (step (fun k hk => ev k) em c) (by omega) (fun a b h1 h2 h3 h4 => ?_) (by omega))
        have : a = b := by omega
        subst this; exact L.refl _
      · rw [if_neg hq0]
        refine wk (fun r ⟨q1, q2, q3, q4, q5, q6⟩ => ⟨q1, q2, by omega, by omega, q5, q6⟩) (desc_ok h1 f _ (m + 1) 0 hp (step (fun k _ => ⟨L.refl _, L.refl _⟩) rfl c) (by omega) (fun a b h1 h2 h3 h4 => ?_) (by omega))
        have : a = b := by omega
        subst this; exact L.refl _
    | false =>
      dsimp only
      rw [if_neg Bool.false_ne_true]
      refine ⟨hp.bd h1 _, hp.bd h1 _, ?_⟩
      cases d : lt (p.getD (m - 1) 0) (p.getD m 0) with
      | true => dsimp only; rw [if_pos rfl]; exact ⟨hp, hs, Nat.le_refl _, Nat.le_add_right _ _, hq, he⟩
      | false =>
        dsimp only
        rw [if_neg Bool.false_ne_true]
        have ev : Eqv lt (p.getD (m - 1) 0) (p.getD m 0) := ⟨d, c⟩
        refine wk (fun r ⟨q1, q2, q3, q4, q5, q6⟩ => ⟨q1, q2, by omega, by omega, q5, q6⟩) (desc_ok h1 f _ (m + 1) (q + 1) hp (fun i j hij hj => ?_) (by omega) (fun a b h1 h2 h3 h4 => ?_) (by omega))
        · by_cases hjm : j < m
          · exact hs i j hij hjm
          · have : j = m := by omega
            subst this
            by_cases hi : i = j
            · subst hi; exact L.refl _
            · exact Eqv.l L ev (hs i (j - 1) (by omega) (by omega))
        · by_cases ha : a < m
          · by_cases hb : b < m
            · exact he a b (by omega) ha (by omega) hb
            · have : b = m := by omega
              subst this
              exact Eqv.l L ev (he a (b - 1) (by omega) ha (by omega) (by omega))
          · have : a = m := by omega
            subst this
            by_cases hb : b < a
            · exact Eqv.r L ev (he (a - 1) b (by omega) (by omega) (by omega) hb)
            · have : b = a := by omega
              subst this; exact L.refl _
noncomputable def RunOk (n : Nat) (lt : Nat → Nat → Bool) (r : Nat × Array Nat) : Prop := Pm n r.2 ∧ 1 ≤ r.1 ∧ r.1 ≤ n ∧ Sd lt r.2 r.1
theorem tail3_ok (h1 : 1 ≤ n) {p : Array Nat} {m : Nat} (hp : Pm n p) (hm : 1 ≤ m) (hmn : m ≤ n) (hs : Sf lt p m) : (kas_tail3 m n p).kgo n lt (RunOk n lt) := by
  refine kgo_bind ?_
  have hsz : m ≤ p.size := by rw [hp.size]; omega (config := {})
  refine kgo_mono (fun r ⟨q1, q2, q3, _⟩ => ⟨rev_pm hp, by omega (config := {}), by omega (config := {}), q3⟩) (asc_ok L (rev_pm hp) h1 (n - m) m hm (by omega (config := {})) fun i j hij hj => ?_)
  rw [rev_get L hsz, rev_get L hsz, if_pos (by omega (config := {})), if_pos (by omega (config := {}))]
  exact hs _ _ (by omega (config := {})) (by omega (config := {}))
theorem descPart_ok (h1 : 1 ≤ n) {p : Array Nat} {m : Nat} (hp : Pm n p) (hmn : m + 1 ≤ n) (hs : Sf lt p (m + 1)) : (kas_descPart m n p).kgo n lt (RunOk n lt) := by
  refine kgo_bind (kgo_mono (fun r ⟨q1, q2, q3, q4, q5, q6⟩ => ?_) (desc_ok L h1 (n - (m + 1)) p (m + 1) 0 hp hs (by omega) (fun a b h1 h2 h3 h4 => by
    have : a = b := by omega
    subst this; exact L.refl _) (by omega)))
  split
  · exact tail3_ok L h1 (rev_pm q1) (by omega) (by omega) (Sf.eqv L q2 fun k _ => rev_eqv L (by rw [q1.size]; omega) q6 k)
  · exact tail3_ok L h1 q1 (by omega) (by omega) q2
theorem count_ok (h2 : 2 ≤ n) {p : Array Nat} (hp : Pm n p) : (kas_count n p).kgo n lt (RunOk n lt) := by
  refine kgo_bind (kgo_mono (fun r ⟨q1, q2, q3, q4⟩ => ?_) (asc_ok L hp (by omega) (n - 1) 1 (Nat.le_refl _) (by omega) fun i j hij hj => by
    have : i = j := by omega
    subst this; exact L.refl _))
  split
  · exact ⟨hp, q1, by omega, q3⟩
  · rename_i hr
    have hr' : r < n := by
      have : ¬ r = n := by simpa using hr
      omega
    have hc := q4 (by omega)
    split
    · rename_i hr1
      refine ⟨hp.bd (by omega) _, hp.bd (by omega) _, ?_⟩
      cases c : lt (p.getD 0 0) (p.getD (r - 1) 0) with
      | true => dsimp only; rw [if_pos rfl]; exact ⟨hp, q1, by omega, q3⟩
      | false =>
        dsimp only
        rw [if_neg Bool.false_ne_true]
        have hsz : r ≤ p.size := by rw [hp.size]; omega
        have all : ∀ a b, 0 ≤ a → a < r → 0 ≤ b → b < r → lt (p.getD a 0) (p.getD b 0) = false := fun a b _ ha _ hb =>
          L.tr (L.tr (q3 b (r - 1) (by omega) (by omega)) c) (q3 0 a (by omega) ha)
        have ev := rev_eqv L (i := 0) hsz all
        refine descPart_ok L (by omega) (rev_pm hp) (by omega) fun i j hij hj => ?_
        by_cases hjr : j < r
        · exact Eqv.r L (ev i) (Eqv.l L (ev j) (all i j (Nat.zero_le _) (by omega) (Nat.zero_le _) hjr))
        · have : j = r := by omega
          subst this
          by_cases hi : i = j
          · subst hi; exact L.refl _
          · have em : (kas_rev p 0 j).getD j 0 = p.getD j 0 := by rw [rev_get L hsz, if_neg (by omega)]
            rw [em]
            refine Eqv.r L (ev i) ?_
            exact L.tr (L.as hc) (all i (j - 1) (Nat.zero_le _) (by omega) (Nat.zero_le _) (by omega))
    · have hr1 : r = 1 := by omega
      subst hr1
      refine descPart_ok L (by omega) hp (by omega) fun i j hij hj => ?_
      by_cases hi : i = j
      · subst hi; exact L.refl _
      · have h0 : i = 0 := by omega
        have h1 : j = 1 := by omega
        subst h0 h1
        exact L.as hc
theorem place_ok (h1 : 1 ≤ n) {p : Array Nat} {k : Nat} (hp : Pm n p) (hs : Sd lt p k) (hk : k < n) : ∀ (f l r : Nat), l ≤ r → r ≤ k → r - l ≤ f → (∀ i, i < l → lt (p.getD k 0) (p.getD i 0) = false) → (∀ i, r ≤ i → i < k → lt (p.getD k 0) (p.getD i 0) = true) →
    (kas_place p k f l r).kgo n lt fun m => m ≤ k ∧ (∀ i, i < m → lt (p.getD k 0) (p.getD i 0) = false) ∧ ∀ i, m ≤ i → i < k → lt (p.getD k 0) (p.getD i 0) = true
  | 0, l, r, hlr, hrk, hf, ha, hb => ⟨by omega, ha, fun i hi hik => hb i (by omega) hik⟩
  | f + 1, l, r, hlr, hrk, hf, ha, hb => by
    unfold kas_place
    by_cases h : l ≥ r
    · rw [if_pos h]; exact ⟨by omega, ha, fun i hi hik => hb i (by omega) hik⟩
    · rw [if_neg h]
      refine ⟨hp.bd h1 _, hp.bd h1 _, ?_⟩
      cases c : lt (p.getD k 0) (p.getD ((l + r) / 2) 0) with
      | true =>
        dsimp only
        rw [if_pos rfl]
        refine place_ok h1 hp hs hk f l ((l + r) / 2) (by omega) (by omega) (by omega) ha fun i hi hik => ?_
        cases d : lt (p.getD k 0) (p.getD i 0) with
        | true => rfl
        | false =>
          have := L.tr (hs ((l + r) / 2) i hi hik) d
          rw [c] at this; cases this
      | false =>
        dsimp only
        rw [if_neg Bool.false_ne_true]
        refine place_ok h1 hp hs hk f ((l + r) / 2 + 1) r (by omega) (by omega) (by omega) (fun i hi => ?_) hb
        exact L.tr (hs i ((l + r) / 2) (by omega) (by omega)) c
theorem bin_ok (h1 : 1 ≤ n) : ∀ (f : Nat) (p : Array Nat) (k : Nat), Pm n p → Sd lt p k → k + f = n → 1 ≤ k → (kas_bin f p k).kgo n lt fun q => Pm n q ∧ Sd lt q n
  | 0, p, k, hp, hs, hk, _ => ⟨hp, by rw [← hk]; exact hs⟩
  | f + 1, p, k, hp, hs, hk, hk1 => by
    unfold kas_bin
    refine kgo_bind (kgo_mono (?_) (place_ok L h1 hp hs (by omega) k 0 k (Nat.zero_le _) (Nat.le_refl _) (by omega) (fun i hi => absurd hi (Nat.not_lt_zero _)) fun i hi hik => absurd (Nat.lt_of_lt_of_le hik hi) (Nat.lt_irrefl _)))
    rintro l ⟨hl, ha, hb⟩
    have hb' : ∀ i, (bubble p k (k - l)).getD i 0 = if i = l then p.getD k 0 else if l < i ∧ i ≤ k then p.getD (i - 1) 0 else p.getD i 0 := fun i => by
      have := getElem?_bubble (xs := p) (src := k) (by rw [hp.size]; omega) (k - l) (by omega) i
      rw [show k - (k - l) = l by omega] at this
      rw [Array.getD_eq_getD_getElem?, this]
      repeat' split
      all_goals rw [Array.getD_eq_getD_getElem?]
    refine bin_ok h1 f _ (k + 1) ((bubble_perm p k _).trans hp) (fun i j hij hj => ?_) (by omega) (by omega)
    rw [hb', hb']
    by_cases hj1 : j = l
    · subst hj1
      rw [if_pos rfl]
      by_cases hi1 : i = j
      · subst hi1; rw [if_pos rfl]; exact L.refl _
      · rw [if_neg hi1, if_neg (by omega)]
        exact ha i (by omega)
    · rw [if_neg hj1]
      by_cases hi1 : i = l
      · subst hi1
        rw [if_pos rfl, if_pos (by omega)]
        exact L.as (hb (j - 1) (by omega) (by omega))
      · rw [if_neg hi1]
        by_cases hj2 : l < j ∧ j ≤ k
        · rw [if_pos hj2]
          by_cases hi2 : l < i ∧ i ≤ k
          · rw [if_pos hi2]; exact hs _ _ (by omega) (by omega)
          · rw [if_neg hi2]; exact hs _ _ (by omega) (by omega)
        · rw [if_neg hj2, if_neg (by omega)]
          exact hs _ _ hij (by omega)
theorem sort_ok (h2 : 2 ≤ n) : (kas_sort n).kgo n lt fun q => Pm n q ∧ Sd lt q n := by
  unfold kas_sort
  refine kgo_bind (kgo_mono (?_) (count_ok L h2 (Array.Perm.refl _)))
  rintro r ⟨q1, q2, q3, q4⟩
  split
  · rename_i h
    have e : max r.1 1 = r.1 := by omega
    rw [e]
    exact bin_ok L (by omega) _ _ _ q1 q4 (by omega) q2
  · have : r.1 = n := by omega
    exact ⟨q1, by rw [this] at q4; exact q4⟩
end
end M

set_option Elab.async false
set_option linter.all false
set_option maxRecDepth 100000
namespace M
open PySem PySem.W PySem.Spec PyProof.Rows L2

section
variable {prog : Program} {w : World} {A : Around} {E : Value → Shared → Prop} {s : Shared}
theorem zip_self2 {vs : List Value} (_ : vs.length < 2) : (vs.toArray.zip vs.toArray).map (·.2) = vs.toArray := by
  rw [List.zip_toArray, List.map_toArray]
  exact congrArg _ (List.map_snd_zip (Nat.le_refl _))
theorem list_sort_short {a : Addr} {vs : List Value} {n : Nat} {P : PySem.Fin → Shared → Prop} (ho : s.heap.get? a = some (seqObj "list" vs.toArray n)) (h2 : vs.length < 2)
    (h : P (.done (.ret .none)) { s with heap := sortedHeap s.heap a vs vs.toArray }) : wpAny (model prog w) A (Builtin.«list.sort» ⟨[.ref a], []⟩) P E s := by
  rw [list_sort_plain]
  have ha : a < s.heap.objs.size := Heap.lt_size ho
  refine wpAny_bind (listItems_at ho rfl ?_)
  refine wpAny_bind (listUpdate_at ho rfl ?_ (by rw [List.size_toArray, sizeLine_eq]; omega) (Nat.zero_le _))
  obtain ⟨e1, ho1⟩ : ∃ e1, (s.heap.update a (Obj.mapSeq fun _ => #[])).get? a = some (seqObj "list" #[] e1) := ⟨_, get?_update_seq ho (fun _ => #[])⟩
  refine wpAny_bind (seqEpoch_at ho1 rfl ?_)
  refine wpAny_bind (wpAny_newTuple ?_ (by show vs.length ≤ _; rw [sizeLine_eq]; omega))
  refine wpAny_bind (wpAny_newList ?_ (Nat.zero_le _))
  refine wpAny_holding ?_
  have ho6 : (((s.heap.update a (Obj.mapSeq fun _ => #[])).push (seqObj "tuple" vs.toArray 0)).push (seqObj "list" #[] 0)).get? a = some (seqObj "list" #[] e1) := by
    rw [Heap.get?_push_ne _ _ _ (by rw [size_push', Heap.size_update]; exact Nat.ne_of_lt (Nat.lt_succ_of_lt ha)), Heap.get?_push_ne _ _ _ (by rw [Heap.size_update]; exact Nat.ne_of_lt ha)]
    exact ho1
  show wpAny (model prog w) A _ P E { s with heap := ((s.heap.update a (Obj.mapSeq fun _ => #[])).push (seqObj "tuple" vs.toArray 0)).push (seqObj "list" #[] 0) }
  dsimp only
  have h2' : vs.toArray.size < 2 := by simpa using h2
  rw [if_pos h2', if_pos h2']
  refine wpAny_bind (wpAny_pure ?_)
  rw [StateT.run_pure]
  refine wpAny_bind (wpAny_pure ?_)
  dsimp only
  refine wpAny_bind (seqEpoch_at ho6 rfl ?_)
  have hout : (arrOf (SortSt.mk' general' (vs.toArray.zip vs.toArray) #[] 7 none)).map (·.2) = vs.toArray := by
    exact zip_self2 h2
  refine wpAny_bind (listUpdate_at ho6 rfl ?_ (Nat.zero_le _) (by rw [hout, List.size_toArray, sizeLine_eq]; omega))
  simp only [bne_self_eq_false, Bool.false_eq_true, if_false]
  rw [hout]
  exact wpAny_pure h
theorem sorted_short {l : Addr} {vs : List Value} {Q : Value → Shared → Prop} (hl : s.heap.IsList l vs.toArray) (h2 : vs.length < 2)
    (h : Q (.ref (s.heap.objs.size + 1)) { s with heap := sortedAll s.heap vs vs.toArray }) : wpAny (model prog w) A (call (.builtin "sorted") [.ref l]) Q E s := by
  refine Calls.call_function_entry kind_sorted plain_sorted entry_sorted (args_sorted1 _) ?_
  unfold Builtin.«sorted»
  refine wpAny_bind (m := checkCount "sorted" 1 1 _) (wpAny_pure ?_)
  refine wpAny_bind (collect_list hl ?_ (by rw [sizeLine_eq]; omega))
  refine wpAny_bind (wpAny_newList ?_ (by rw [sizeLine_eq]; omega))
  have hsz : ((s.heap.push (seqObj "list" #[] 0)).update s.heap.objs.size (Obj.mapSeq (· ++ vs.toArray))).objs.size = s.heap.objs.size + 1 := by
    rw [Heap.size_update, size_push']
  have hoL : (((s.heap.push (seqObj "list" #[] 0)).update s.heap.objs.size (Obj.mapSeq (· ++ vs.toArray))).push (seqObj "list" vs.toArray 0)).get? (s.heap.objs.size + 1) = some (seqObj "list" vs.toArray 0) := by
    rw [← hsz]; exact Heap.get?_push_size _ rfl
  show wpAny _ _ _ _ _ { s with heap := ((s.heap.push (seqObj "list" #[] 0)).update s.heap.objs.size (Obj.mapSeq (· ++ vs.toArray))).push (seqObj "list" vs.toArray 0) }
  rw [hsz]
  refine wpAny_bind (wpAny_holding (wpAny_call_entry slot_list_sort ⟨_, hoL, rfl⟩ entry_list_sort (list_sort_short hoL h2 ⟨_, rfl, ?_⟩) (args_list_sort _)))
  exact wpAny_pure ⟨_, rfl, h⟩
end

theorem lexLt_irr : ∀ a : List Int, HT.lexLt a a = false
  | [] => rfl
  | x :: xs => by rw [HT.lexLt_cons, if_pos rfl]; exact lexLt_irr xs
theorem lexLt_as : ∀ {a b : List Int}, HT.lexLt a b = true → HT.lexLt b a = false
  | [], [], h => by cases h
  | [], _ :: _, _ => rfl
  | _ :: _, [], h => by cases h
  | x :: xs, y :: ys, h => by
    rw [HT.lexLt_cons] at h ⊢
    by_cases e : x = y
    · rw [if_pos e] at h; rw [if_pos e.symm]; exact lexLt_as h
    · rw [if_neg e] at h
      rw [if_neg (Ne.symm e)]
      have := of_decide_eq_true h
      exact decide_eq_false (by omega)
theorem lexLt_tr : ∀ {a b c : List Int}, HT.lexLt b a = false → HT.lexLt c b = false → HT.lexLt c a = false
  | a, b, [], h1, h2 => by
    cases b with
    | nil => exact h1
    | cons y ys => cases h2
  | [], b, z :: zs, h1, h2 => rfl
  | x :: xs, [], z :: zs, h1, h2 => by cases h1
  | x :: xs, y :: ys, z :: zs, h1, h2 => by
    rw [HT.lexLt_cons] at h1 h2 ⊢
    by_cases e1 : y = x
    · rw [if_pos e1] at h1
      subst e1
      by_cases e2 : z = y
      · rw [if_pos e2] at h2 ⊢; exact lexLt_tr h1 h2
      · rw [if_neg e2] at h2 ⊢; exact h2
    · rw [if_neg e1] at h1
      have q1 := of_decide_eq_false h1
      by_cases e2 : z = y
      · subst e2; rw [if_neg e1]; exact h1
      · rw [if_neg e2] at h2
        have q2 := of_decide_eq_false h2
        rw [if_neg (by omega)]
        exact decide_eq_false (by omega)
theorem lexLt_eq : ∀ {a b : List Int}, HT.lexLt a b = false → HT.lexLt b a = false → a = b
  | [], [], _, _ => rfl
  | [], _ :: _, h, _ => by cases h
  | _ :: _, [], _, h => by cases h
  | x :: xs, y :: ys, h1, h2 => by
    rw [HT.lexLt_cons] at h1 h2
    by_cases e : x = y
    · rw [if_pos e] at h1; rw [if_pos e.symm] at h2
      rw [e, lexLt_eq h1 h2]
    · rw [if_neg e] at h1; rw [if_neg (Ne.symm e)] at h2
      have q1 := of_decide_eq_false h1
      have q2 := of_decide_eq_false h2
      omega
noncomputable def insK (k : List Int) : List (List Int) → List (List Int)
  | [] => [k]
  | j :: r => if HT.lexLt j k = true then j :: insK k r else k :: j :: r
noncomputable def sortK : List (List Int) → List (List Int)
  | [] => []
  | k :: r => insK k (sortK r)
noncomputable def Asc (l : List (List Int)) : Prop := l.Pairwise fun a b => HT.lexLt b a = false
theorem insK_perm (k : List Int) : ∀ l, (insK k l).Perm (k :: l)
  | [] => List.Perm.refl _
  | j :: r => by
    unfold insK
    split
    · exact (List.Perm.cons j (insK_perm k r)).trans (List.Perm.swap k j r)
    · exact List.Perm.refl _
theorem sortK_perm : ∀ l, (sortK l).Perm l
  | [] => List.Perm.refl _
  | k :: r => (insK_perm k (sortK r)).trans (List.Perm.cons k (sortK_perm r))
theorem insK_asc (k : List Int) : ∀ {l}, Asc l → Asc (insK k l)
  | [], _ => List.Pairwise.cons (fun _ h => by simp at h) List.Pairwise.nil
  | j :: r, h => by
    unfold Asc at h
    rw [List.pairwise_cons] at h
    unfold insK
    split
    · rename_i c
      refine List.Pairwise.cons (fun b hb => ?_) (insK_asc k h.2)
      rcases List.mem_cons.mp ((insK_perm k r).mem_iff.mp hb) with rfl | hb
      · exact lexLt_as c
      · exact h.1 b hb
    · rename_i c
      have c : HT.lexLt j k = false := by simpa using c
      refine List.Pairwise.cons (fun b hb => ?_) (List.Pairwise.cons h.1 h.2)
      rcases List.mem_cons.mp hb with rfl | hb
      · exact c
      · exact lexLt_tr c (h.1 b hb)
theorem sortK_asc : ∀ l, Asc (sortK l)
  | [] => List.Pairwise.nil
  | k :: r => insK_asc k (sortK_asc r)
theorem asc_unique : ∀ {a b : List (List Int)}, Asc a → Asc b → a.Perm b → a = b
  | [], b, _, _, p => (List.Perm.nil_eq p)
  | x :: xs, [], _, _, p => by have := p.length_eq; simp at this
  | x :: xs, y :: ys, ha, hb, p => by
    unfold Asc at ha hb
    rw [List.pairwise_cons] at ha hb
    have e : x = y := by
      have hx : x ∈ y :: ys := p.mem_iff.mp List.mem_cons_self
      have hy : y ∈ x :: xs := p.mem_iff.mpr List.mem_cons_self
      rcases List.mem_cons.mp hx with h | h
      · exact h
      rcases List.mem_cons.mp hy with h' | h'
      · exact h'.symm
      · exact lexLt_eq (hb.1 x h) (ha.1 y h') |>.symm ▸ rfl
    subst e
    rw [asc_unique ha.2 hb.2 (List.Perm.cons_inv p)]
theorem sortK_unique {a b : List (List Int)} (ha : Asc a) (p : a.Perm b) : a = sortK b := asc_unique ha (sortK_asc b) (p.trans (sortK_perm b).symm)

section
variable {X : Cx}
noncomputable def TupAt (H : Hp) (y : V) (k : List Int) : Prop := ∃ a, y = .ref a ∧ H a = some (.tup (k.map V.int))
noncomputable def rSorted (K : PySem.W.Frag) : List V → Hp → VK → Prop := fun xs H Q => ∃ (p : Addr) (ys : List V) (ks : List (List Int)), xs = [.ref p] ∧ SqL K H p ys ∧ Paired (TupAt H) ys ks ∧ (∀ k ∈ ks, k ≠ []) ∧ ks.length < 64 ∧
  ∀ l outs, H l = none → (∀ o ∈ outs, o ∈ ys) → Paired (TupAt H) outs (sortK ks) → Q (.ref l) (upd H l (.lst outs))
theorem paired_get {α β : Type} {F : α → β → Prop} : ∀ {xs : List α} {ys : List β}, Paired F xs ys → ∀ (i : Nat) (x : α), xs[i]? = some x → ∃ y, ys[i]? = some y ∧ F x y
  | _, _, .nil, i, x, h => by simp at h
  | _, _, .cons r t, 0, x, h => by simp at h; subst h; exact ⟨_, rfl, r⟩
  | _, _, .cons r t, i + 1, x, h => by
    obtain ⟨y, e, f⟩ := paired_get t i x (by simpa using h)
    exact ⟨y, by simpa using e, f⟩
theorem paired_map {α β : Type} {F : α → β → Prop} (xs : List α) (ys : List β) (dx : α) (dy : β) (h : Paired F xs ys) : ∀ (p : List Nat), (∀ i ∈ p, i < xs.length) → Paired F (p.map fun i => xs.getD i dx) (p.map fun i => ys.getD i dy)
  | [], _ => .nil
  | i :: r, hp => by
    have hi := hp i List.mem_cons_self
    obtain ⟨y, e, f⟩ := paired_get h i xs[i] (by simp [hi])
    refine .cons ?_ (paired_map xs ys dx dy h r fun j hj => hp j (List.mem_cons_of_mem _ hj))
    dsimp only
    rw [List.getD_eq_getElem?_getD, List.getD_eq_getElem?_getD, e, List.getElem?_eq_getElem hi]
    exact f
theorem intItems {pins : List (Addr × Obj)} {σ : St} {H : Hp} {s : Shared} {y : V} {u : Value} {k : List Int} (I : Inv X pins σ H s) (h : TupAt H y k) (r : RelV y u) : ∃ a its, u = .ref a ∧ H a = some (.tup (k.map V.int)) ∧ IsTup s.heap a its.toArray ∧ IntsAre its k := by
  obtain ⟨a, rfl, ha⟩ := h
  cases r
  obtain ⟨its, rv, ht, hz⟩ := I.tuple (SqT.of ha)
  exact ⟨a, its, rfl, ha, ht, intsAre_of rv⟩
theorem lex_wp {prog : Program} {w : World} {A : Around} {s : Shared} {Q : Bool → Shared → Prop} : ∀ (us us' : List Value) (k k' : List Int) (i : Nat), IntsAre us k → IntsAre us' k' → Q (HT.lexLt k k') s → ∀ n n' : Nat, n + k'.length = n' + k.length → KatLex prog w A true (decide (n < n')) Q (us.zip us') i s
  | [], us', k, k', i, h, h', hq, n, n', e => by
    cases h
    rw [List.zip_nil_left]
    refine kat_nil ?_
    cases h' with
    | nil => simp only [List.length_nil] at e; rw [HT.lexLt_nil_nil] at hq; rw [decide_eq_false (by omega)]; exact hq
    | cons c u hw => simp only [List.length_nil, List.length_cons] at e; rw [HT.lexLt_nil_cons] at hq; rw [decide_eq_true (by omega)]; exact hq
  | u :: us, [], k, k', i, h, h', hq, n, n', e => by
    cases h'
    rw [List.zip_nil_right]
    refine kat_nil ?_
    cases h with
    | cons c t hw => simp only [List.length_nil, List.length_cons] at e; rw [HT.lexLt_cons_nil] at hq; rw [decide_eq_false (by omega)]; exact hq
  | u :: us, u' :: us', k, k', i, h, h', hq, n, n', e => by
    cases h with
    | cons c t hw =>
      cases h' with
      | cons c' t' hw' =>
        rw [List.zip_cons_cons]
        rw [HT.lexLt_cons] at hq
        refine kat_cons (SeqAt.EqAt.int_int c t c' t' prog w _ _ ?_)
        by_cases ec : c = c'
        · rw [if_pos ec] at hq
          rw [beq_iff_eq.mpr ec]
          exact kat_yes (lex_wp us us' _ _ (i + 1) hw hw' hq n n' (by simp only [List.length_cons] at e; omega))
        · rw [if_neg ec] at hq
          rw [beq_eq_false_iff_ne.mpr ec]
          refine kat_no ?_
          by_cases hi : i = 0
          · subst hi; exact oneLt_int hq
          · have : (true && i == 0) = false := by simp [hi]
            rw [this]
            exact kat_one _ _ (PyProof.Rows.lt_int hq)
theorem katTups_of {pins : List (Addr × Obj)} {σ : St} {H : Hp} {s : Shared} (I : Inv X pins σ H s) {h : Heap} (keep : ∀ b o u, H b = some u → s.heap.get? b = some o → h.get? b = some o) : ∀ {ys : List V} {us : List Value} {ks : List (List Int)}, Paired (TupAt H) ys ks → Vals ys us → (∀ k ∈ ks, k ≠ []) →
    ∃ fs : List Value, KatTups h us fs ∧ fs.length = us.length ∧ ∀ f ∈ fs, ∃ i t, f = .int i t
  | _, _, _, .nil, .nil, _ => ⟨[], KatTups.nil, rfl, fun f hf => by simp at hf⟩
  | _, _, _, .cons t r, .cons v q, ne => by
    obtain ⟨fs, h1, h2, h3⟩ := katTups_of I keep r q fun k hk => ne k (List.mem_cons_of_mem _ hk)
    obtain ⟨a, its, rfl, hH, ⟨o, e, c, n, d⟩, hi⟩ := intItems I t v
    cases hi with
    | nil => exact absurd rfl (ne _ List.mem_cons_self)
    | cons i tk hw =>
      refine ⟨.int i tk :: fs, KatTups.cons (keep _ _ _ hH e) c d (by simp) h1, by simp [h2], fun f hf => ?_⟩
      rcases List.mem_cons.mp hf with rfl | hf
      · exact ⟨i, tk, rfl⟩
      · exact h3 f hf
theorem objOk_there {P : Program} {w : World} {H : Hp} {h : Heap} {a : Addr} {o : HO} (x : ObjOk P w H h a o) : ∃ ob, h.get? a = some ob := by
  cases o with
  | lst xs => obtain ⟨_, _, _, _, e⟩ := x; exact ⟨_, e⟩
  | tup xs => obtain ⟨_, _, _, ob, e, _⟩ := x; exact ⟨_, e⟩
  | dK kvs => obtain ⟨_, _, _, _, o, _, _, e, _⟩ := x; exact ⟨_, e⟩
  | dT kvs => obtain ⟨_, _, _, _, o, _, _, e, _⟩ := x; exact ⟨_, e⟩
  | set S n => obtain ⟨o, _, _, _, e, _⟩ := x; exact ⟨_, e⟩
  | ins C dx fs => obtain ⟨_, _, _, e, _⟩ := x; exact ⟨_, e⟩
  | own y => obtain ⟨_, e⟩ := x; exact ⟨_, e⟩
  | xd fs => obtain ⟨_, ⟨_, _, _, e, _⟩, _⟩ := x; exact ⟨_, e⟩
  | rng lo hi => obtain ⟨_, _, _, e⟩ := x; exact ⟨_, e⟩
  | frz ob u => obtain ⟨e, _⟩ := x; exact ⟨_, e⟩
  | tbl ps => exact ⟨_, (show h.get? a = some _ from x)⟩
  | met f y => exact ⟨_, (show h.get? a = some _ from x)⟩
  | ext φ => obtain ⟨_, ⟨_, e⟩, _⟩ := x; exact ⟨_, e⟩
theorem ledgerLaid {pins : List (Addr × Obj)} {σ : St} {H : Hp} {s s' : Shared} {m : Str → Option Value} {D : Addr} {o : HO} (I : Inv X pins σ H s) (F : Fr X.base X.env.locals s.heap m) (F' : Fr X.base X.env.locals s'.heap m)
    (keep : ∀ b o, b ≠ X.env.locals → s.heap.get? b = some o → s'.heap.get? b = some o) (nD : s.heap.get? D = none) (new : ObjOk X.prog X.w (upd H D o) s'.heap D o) (os : s'.os = s.os) (bare : AllBare s'.gens) : Inv X pins σ (upd H D o) s' := by
  obtain ⟨h', g', d', t', o'⟩ := s'
  have e : o' = s.os := os
  subst e
  have neD : ∀ b ob, s.heap.get? b = some ob → b ≠ D := fun b ob e z => by subst z; rw [nD] at e; cases e
  have hD : H D = none := by
    cases q : H D with
    | none => rfl
    | some u => obtain ⟨ob, e⟩ := objOk_there (I.hok D u q); rw [nD] at e; cases e
  have neL : ∀ b u, H b = some u → b ≠ X.env.locals := fun b u e z => by rw [z, I.free] at e; cases e
  refine I.step (g' := g') (d' := d') (t' := t') (ch := []) (fun b hb => by simp at hb) (fun b ob hL _ _ e _ => keep b ob hL e) (fun b ob hL _ _ e _ => ⟨ob.slots, keep b ob hL e⟩) (fun b ob _ e n => by rw [upd_ne (neD b ob e)]; exact n)
    (fun b ob _ e => ?_) (fun b xs e => by rw [upd_ne (ne_of_none e hD)]; exact e) (fun b u xs e => by rw [upd_ne (ne_of_none e hD)]; exact e) (fun b ps e => ⟨#[], by rw [upd_ne (ne_of_none e hD), e]; simp⟩) (fun m' hm => ?_) (fun b u e => ?_) bare
  · by_cases hb : b = X.env.locals
    · obtain ⟨ob', _, _, e', _⟩ := F'.ns
      exact ⟨ob', by rw [hb]; exact e'⟩
    · exact ⟨ob, keep b ob hb e⟩
  · have : m' = m := by
      obtain ⟨o1, es1, ep1, a1, a2, a3, a4⟩ := hm
      obtain ⟨o2, es2, ep2, b1, b2, b3, b4⟩ := F.ns
      rw [a1] at b1; cases b1
      rw [a2] at b2; cases b2
      funext x; rw [← a4 x, ← b4 x]
    rw [this]; exact F'.ns
  · by_cases hb : b = D
    · subst hb; rw [upd_same] at e; cases e; exact new
    · rw [upd_ne hb] at e
      refine (I.hok b u e).stay (fun c v hc q => keep c v ?_ q) (fun c q => by rw [upd_ne (ne_of_none q hD)]; exact q) fun c xs q => by rw [upd_ne (ne_of_none q hD)]; exact q
      rcases hc with z | z
      · rw [z]; exact neL b u e
      · exact neL c _ z
theorem sort_core {A : Around} {pins : List (Addr × Obj)} {σ : St} {H : Hp} {s : Shared} {m : Str → Option Value} {ys : List V} {its : List Value} {ks : List (List Int)} {D : Addr} {e1 : Nat} {h' : Heap} {tk0 : Nat} {Q : VK} (I : Inv X pins σ H s) (F : Fr X.base X.env.locals s.heap m)
    (pk : Paired (TupAt H) ys ks) (rv : Vals ys its) (ne : ∀ k ∈ ks, k ≠ []) (h2 : 2 ≤ its.length) (h64 : its.length < 64) (F' : Fr X.base X.env.locals h' m) (N' : News X.base X.env.locals h' ((D, seqObj "list" #[] e1) :: allNews X.base s.heap X.env.locals)) (above : ∀ q ∈ allNews X.base s.heap X.env.locals, q.1 < D)
    (q : ∀ outs, H D = none → (∀ o ∈ outs, o ∈ ys) → Paired (TupAt H) outs (sortK ks) → Q (.ref D) (upd H D (.lst outs))) :
    wpAny (model X.prog X.w) A (keyKind' its.toArray) (fun κ s' => (kas_sort its.length).kasWp (kas_ask X.prog X.w A κ its) (fun p s'' => KasFin X.base X.env.locals m D e1 (p.toList.map fun i => its.getD i Value.none) (fun s3 => EP X pins σ Q (.ref D) s3) s'') s') (fun _ _ => False) { s with heap := h', toks := tk0 } := by
    have l1 : its.length = ks.length := by rw [← rv.length]; exact Paired.length pk
    have keepL : ∀ {h2 : Heap}, Fr X.base X.env.locals h2 m → (∀ q ∈ allNews X.base s.heap X.env.locals, h2.get? q.1 = some q.2) → ∀ b o, b ≠ X.env.locals → s.heap.get? b = some o → h2.get? b = some o := fun {h2} F2 N2 b o hb e => by
      cases g : X.base.get? b with
      | some o' => have := I.bk b o' g; rw [e] at this; cases this; exact F2.keep b _ g
      | none => exact N2 (b, o) (mem_allNews hb g e)
    have keep := keepL F' fun q hq => (N' q (List.mem_cons_of_mem _ hq)).1
    have nD : s.heap.get? D = none := by
      cases e : s.heap.get? D with
      | none => rfl
      | some o =>
        have hn := N' (D, seqObj "list" #[] e1) List.mem_cons_self
        exact absurd (above (D, o) (mem_allNews hn.2.1 hn.2.2 e)) (Nat.lt_irrefl _)
    have neL : ∀ b u, H b = some u → b ≠ X.env.locals := fun b u e z => by rw [z, I.free] at e; cases e
    obtain ⟨fs, kt, lf, fi⟩ := katTups_of I (h := h') (fun b o u hu e => keep b o (neL b u hu) e) pk rv ne
    refine kat_kind (T := .type "int") kt (by omega) (fun v hv => by obtain ⟨i, t, rfl⟩ := fi v hv; exact Looks.of_pure rfl) (by first | rfl | decide) ?_
    have L : LtOk fun i j => HT.lexLt (ks.getD i []) (ks.getD j []) := ⟨fun a => lexLt_irr _, fun h1 h2 => lexLt_tr h1 h2, fun h => lexLt_as h⟩
    refine kgo_wp (lt := fun i j => HT.lexLt (ks.getD i []) (ks.getD j [])) (n := its.length) (P := fun q => Pm its.length q ∧ Sd (fun i j => HT.lexLt (ks.getD i []) (ks.getD j [])) q its.length) (fun i j C hi hj hC => ?_) (fun pm ⟨hpm, hsd⟩ => ?_) (sort_ok L (by omega))
    · -- a question
      have at' : ∀ i, i < its.length → ∃ a ws, its.getD i .none = .ref a ∧ IsTup h' a ws.toArray ∧ IntsAre ws (ks.getD i []) := fun i hi => by
        have hyl : i < ys.length := by rw [rv.length]; exact hi
        obtain ⟨k, ek, tk⟩ := paired_get pk i (ys[i]'hyl) (by simp [hyl])
        obtain ⟨u, eu, ru⟩ := rv.get (i := i) (x := ys[i]'hyl) (by simp [hyl])
        obtain ⟨a, ws, e1, hH, ⟨o, g1, g2, g3⟩, g4⟩ := intItems I tk ru
        refine ⟨a, ws, by rw [List.getD_eq_getElem?_getD, eu, e1]; rfl, ⟨o, keep _ _ (neL _ _ hH) g1, g2, g3⟩, by rw [List.getD_eq_getElem?_getD, ek]; exact g4⟩
      obtain ⟨a, ws, e1, ⟨o, g1, g2, n, g3⟩, g4⟩ := at' i hi
      obtain ⟨a', ws', e1', ⟨o', g1', g2', n', g3'⟩, g4'⟩ := at' j hj
      unfold kas_ask
      rw [e1, e1']
      have la := g4.length
      have la' := g4'.length
      refine kat_lt g1 g3 g1' g3' ?_
      exact lex_wp ws ws' _ _ 0 g4 g4' hC _ _ (by simp only [List.size_toArray]; omega)
    · -- the end
      have hpl : ∀ i ∈ pm.toList, i < its.length := fun i hi => by
        have : i ∈ pm := by simpa using hi
        have := (hpm.mem_iff).mp this
        simpa using this
      have hys : ys.length = its.length := rv.length
      have outs := paired_map ys ks .non [] pk pm.toList fun i hi => by rw [hys]; exact hpl i hi
      have outsV : Vals (pm.toList.map fun i => ys.getD i .non) (pm.toList.map fun i => its.getD i Value.none) := paired_map ys its .non .none rv pm.toList fun i hi => by rw [hys]; exact hpl i hi
      have esort : (pm.toList.map fun i => ks.getD i []) = sortK ks := by
        refine sortK_unique ?_ ?_
        · unfold Asc
          rw [List.pairwise_iff_getElem]
          intro i j hi hj hij
          simp only [List.length_map, Array.length_toList] at hi hj
          have hsz := hpm.size
          have := hsd i j (by omega) (by omega)
          simpa [Array.getD, hi, hj] using this
        · have hp2 : pm.toList.Perm (List.range its.length) := by simpa using Array.perm_iff_toList_perm.mp hpm
          have e2 : (List.range its.length).map (fun i => ks.getD i []) = ks := by rw [l1]; exact range_getD ks []
          have := hp2.map (fun i => ks.getD i [])
          rw [e2] at this
          exact this
      rw [esort] at outs
      refine KasFin.intro (g := fun o => (D, o) :: allNews X.base s.heap X.env.locals) F' N' ?_ fun h2 c F2 N2 => ?_
      · exact UpdF.head fun p hp => Nat.ne_of_lt (above p hp)
      · have hD2 := (N2 (D, listOf (List.toArray (pm.toList.map fun i => its.getD i Value.none)) c) List.mem_cons_self).1
        have I' : Inv X pins σ (upd H D (.lst (pm.toList.map fun i => ys.getD i .non))) { s with heap := h2, toks := tk0 } := ledgerLaid (s' := { s with heap := h2, toks := tk0 }) I F F2 (keepL F2 fun q hq => (N2 q (List.mem_cons_of_mem _ hq)).1) nD
          ⟨by rw [List.length_map, Array.length_toList, hpm.size, sizeLine_eq]; omega, _, c, outsV, hD2⟩ rfl I.bare
        have nH : H D = none := by
          cases z : H D with
          | none => rfl
          | some u => obtain ⟨ob, e⟩ := objOk_there (I.hok D u z); rw [nD] at e; cases e
        exact ⟨.ref D, _, I', rfl, q _ nH (fun o ho => by
          obtain ⟨i, hi, rfl⟩ := List.mem_map.mp ho
          have hi' : i < ys.length := by rw [hys]; exact hpl i hi
          rw [List.getD_eq_getElem?_getD, List.getElem?_eq_getElem hi']
          exact List.getElem_mem hi') outs⟩
theorem call_sorted : CallR X (.builtin "sorted") (rSorted X.K) := by
  intro pins s σ H xs us Q I r h
  obtain ⟨p, ys, ks, rfl, hp, pk, ne, h64, q⟩ := h
  obtain ⟨u, rfl, ru⟩ := vals1 r
  cases ru
  obtain ⟨its, rv, pl, hz⟩ := I.list hp
  have l1 : its.length = ks.length := by rw [← rv.length]; exact Paired.length pk
  by_cases h2 : its.length < 2
  · refine sorted_short pl.isList h2 ?_
    obtain ⟨e, hat⟩ := sortedAll_at s.heap its its.toArray
    have hs : Paired (TupAt H) ys (sortK ks) := by
      have : sortK ks = ks := by
        match ks, l1 ▸ h2 with
        | [], _ => rfl
        | [_], _ => rfl
      rw [this]; exact pk
    refine ⟨.ref (s.heap.objs.size + 1), _, I.laid (a := s.heap.objs.size + 1) (o := .lst ys) (t' := s.toks) (fun b o e => sortedAll_old e) (Nat.le_succ _) ⟨hz, its, e, rv, hat⟩, rfl, q _ ys (I.hok.fresh (Nat.le_succ _)) (fun _ h => h) hs⟩
  · obtain ⟨m, F⟩ := I.fr
    have N : News X.base X.env.locals s.heap (allNews X.base s.heap X.env.locals) := news_all
    refine kat_sorted F N pl.isList (by omega) (by omega) fun D e1 h' F' N' above => ?_
    exact sort_core I F pk rv ne (by omega) (by omega) F' N' above fun outs hD ho po => q D outs hD ho po
end
end M

set_option Elab.async false
set_option linter.all false
set_option maxRecDepth 100000
namespace M
open PySem PySem.W PySem.Spec PyProof.Rows L2

noncomputable def RawD (h : Heap) (d : Addr) (es : Array DictEntry) (ep : Nat) : Prop := ∃ o, h.get? d = some o ∧ o.ExactDict ∧ o.data = .dict es ep
section
variable {prog : Program} {w : World} {A : Around} {E : Value → Shared → Prop} {s : Shared} {d it : Addr} {es : Array DictEntry} {ep : Nat}
theorem RawD.type (x : RawD s.heap d es ep) : s.TypeIs (.ref d) "dict" := by obtain ⟨o, h1, h2, _⟩ := x; exact ⟨o, h1, h2.1⟩
theorem RawD.at {h h' : Heap} (x : RawD h d es ep) (e : ∀ o, h.get? d = some o → h'.get? d = some o) : RawD h' d es ep := by obtain ⟨o, h1, r⟩ := x; exact ⟨o, e o h1, r⟩
theorem RawD.lt {h : Heap} (x : RawD h d es ep) : d < h.objs.size := by obtain ⟨o, h1, _⟩ := x; exact Heap.lt_size h1
theorem raw_iter {Q : Value → Shared → Prop} (hd : (d == sysModules) = false) (x : RawD s.heap d es ep)
    (q : Q (.ref s.heap.objs.size) { s with heap := s.heap.push { cls := .type "dict_keyiterator", data := .fields #[.ref d, .int 0 0, .int es.size 0, .int ep 0] } }) : wpAny (model prog w) A (pyIter (.ref d)) Q E s := by
  have hT := x.type
  obtain ⟨o, ho, hc, hdat⟩ := x
  refine wpAny_pyIter_slot hT F.slot_dict_iter (wpAny_call_entry F.slot_dict_iter hT F.entry_dict_iter ?_ (F.args_dict_iter_1 _))
  unfold Builtin.«dict.__iter__»
  refine wpAny_bind ?_
  unfold Builtin.Dict.dictSlotNone
  refine wpAny_bind (wpAny_notOrdered_dict hT (show wpAny _ _ (pure (Value.ref d)) _ _ s from wpAny_pure ?_))
  show wpAny _ _ (Builtin.Dict.showsAll d >>= _) _ _ s
  unfold Builtin.Dict.showsAll
  rw [hd, if_neg Bool.false_ne_true]
  refine wpAny_bind (wpAny_pure (wpAny_bind (wpAny_dictEntries ho hdat (wpAny_bind (wpAny_dictEpoch ho hdat ?_)))))
  refine wpAny_bind (wpAny_newObj_type (wpAny_pure ⟨_, rfl, "dict_keyiterator", _, ⟨_, Heap.get?_push_size _ rfl, rfl⟩, F.slot_dict_keyiterator_next.lookup, ?_⟩))
  simpa [rawInt] using q
theorem raw_next {i : Nat} {e : DictEntry} {Q : Option Value → Shared → Prop} (hit : s.heap.IsKeyIter it d i es.size ep) (x : RawD s.heap d es ep) (hx : es[i]? = some e)
    (q : ∀ h', h'.IsKeyIter it d (i + 1) es.size ep → Heap.SameBut it s.heap h' → Q (some e.key) { s with heap := h' }) : wpAny (model prog w) A (pyNext (.ref it)) Q E s := by
  obtain ⟨o, ho, hc, hd⟩ := id hit
  obtain ⟨od, hod, hcd, hdd⟩ := x
  have ht := hit.typeIs
  unfold pyNext
  refine wpAny_bind (wpAny_attempt (wpAny_callSpecial?_slot (name := Str.ofString "__next__") ht F.slot_dict_keyiterator_next
    (wpAny_call_entry F.slot_dict_keyiterator_next ht F.entry_dict_keyiterator_next ?_ (F.args_dict_keyiterator_next_1 _))))
  refine wpAny_bind (wpAny_pure (wpAny_bind (wpAny_bind ?_)))
  first | refine wpAny_bind (wpAny_typeNameOfWhole_keyiter ht (wpAny_pure ?_)) | refine wpAny_bind (wpAny_typeNameOf_keyiter ht (wpAny_pure ?_))
  refine wpAny_bind (wpAny_fieldsOf ho hd ?_)
  simp only [show Builtin.Dict_items.ownsTuple "dict_keyiterator" = false by decide, Bool.false_eq_true, if_false]
  show wpAny _ _ (if (Value.ref d == Value.none) = true then _ else _) _ _ s
  rw [if_neg (show ¬ ((Value.ref d == Value.none) = true) from Bool.false_ne_true)]
  refine wpAny_bind (wpAny_pure (wpAny_bind (wpAny_dictEntries hod hdd ?_)))
  rw [if_neg (by simp)]
  refine wpAny_bind (wpAny_pure (wpAny_bind (wpAny_dictEpoch hod hdd ?_)))
  rw [if_neg (by simp)]
  refine wpAny_pure ?_
  simp only [show ¬ ((i : Int) < 0) from by omega, if_false, Int.toNat_natCast, hx]
  refine wpAny_bind ?_
  first | refine wpAny_bind (wpAny_typeNameOfWhole_keyiter ht (wpAny_pure ?_)) | refine wpAny_bind (wpAny_typeNameOf_keyiter ht (wpAny_pure ?_))
  refine wpAny_bind (wpAny_isOneOf_keyiter ht ?_)
  show wpAny _ _ (setField (.ref it) 1 (rawInt ((i : Int) + 1)) >>= _) _ _ s
  refine wpAny_bind (wpAny_setField ho hd (by simp) ?_)
  have hit' : (s.heap.update it (Obj.mapFields (·.setIfInBounds 1 (rawInt ((i : Int) + 1))))).IsKeyIter it d (i + 1) es.size ep :=
    ⟨_, Heap.get?_update_self _ ho (Obj.isFreed_of_fields (Obj.data_mapFields hd _)), (Obj.cls_mapFields ..).trans hc, by rw [Obj.data_mapFields hd]; simp [rawInt]⟩
  refine wpAny_bind (wpAny_holding (wpAny_bind (wpAny_isOneOf_keyiter (s := { s with heap := s.heap.update it (Obj.mapFields (·.setIfInBounds 1 (rawInt ((i : Int) + 1)))) }) hit'.typeIs ?_)))
  show wpAny _ _ (pure e.key) _ _ _
  exact wpAny_pure (wpAny_pure ⟨_, rfl, wpAny_pure (q _ hit' (Heap.SameBut.update ..))⟩)
theorem raw_end {i : Nat} {Q : Option Value → Shared → Prop} (hh : A.handled = none) (hit : s.heap.IsKeyIter it d i es.size ep) (x : RawD s.heap d es ep) (hx : es[i]? = none) (q : ∀ h', Heap.ExtBut it s.heap h' → Q none { s with heap := h' }) : wpAny (model prog w) A (pyNext (.ref it)) Q E s := by
  obtain ⟨o, ho, hc, hd⟩ := id hit
  obtain ⟨od, hod, hcd, hdd⟩ := x
  have ht := hit.typeIs
  unfold pyNext
  refine wpAny_bind (wpAny_attempt (wpAny_callSpecial?_slot (name := Str.ofString "__next__") ht F.slot_dict_keyiterator_next
    (wpAny_call_entry F.slot_dict_keyiterator_next ht F.entry_dict_keyiterator_next ?_ (F.args_dict_keyiterator_next_1 _))))
  refine wpAny_bind (wpAny_pure (wpAny_bind (wpAny_bind ?_)))
  first | refine wpAny_bind (wpAny_typeNameOfWhole_keyiter ht (wpAny_pure ?_)) | refine wpAny_bind (wpAny_typeNameOf_keyiter ht (wpAny_pure ?_))
  refine wpAny_bind (wpAny_fieldsOf ho hd ?_)
  simp only [show Builtin.Dict_items.ownsTuple "dict_keyiterator" = false by decide, Bool.false_eq_true, if_false]
  show wpAny _ _ (if (Value.ref d == Value.none) = true then _ else _) _ _ s
  rw [if_neg (show ¬ ((Value.ref d == Value.none) = true) from Bool.false_ne_true)]
  refine wpAny_bind (wpAny_pure (wpAny_bind (wpAny_dictEntries hod hdd ?_)))
  rw [if_neg (by simp)]
  refine wpAny_bind (wpAny_pure (wpAny_bind (wpAny_dictEpoch hod hdd ?_)))
  rw [if_neg (by simp)]
  refine wpAny_pure ?_
  simp only [show ¬ ((i : Int) < 0) from by omega, if_false, Int.toNat_natCast, hx]
  refine wpAny_bind ?_
  first | refine wpAny_bind (wpAny_typeNameOfWhole_keyiter ht (wpAny_pure ?_)) | refine wpAny_bind (wpAny_typeNameOf_keyiter ht (wpAny_pure ?_))
  show wpAny _ _ (setField (.ref it) 0 .none >>= _) _ _ s
  refine wpAny_bind (wpAny_setField ho hd (by simp) ?_)
  show wpAny _ _ (newExc (.type "StopIteration") [] >>= _) _ _ _
  refine wpAny_bind ?_
  simp only [newExc, newTuple]
  refine wpAny_bind (wpAny_newObj_type ?_ (by size_fits))
  refine wpAny_bind (m := firstArgMember _ _) (wpAny_of_eq (a := Value.none) (by first | rfl | (simp only [firstArgMember]; rfl)) (wpAny_newObj_type ?_ (by size_fits)))
  simp only [raiseNew]
  refine wpAny_bind (wpAny_handled ?_)
  rw [show A.in1.handled = none from hh]
  refine wpAny_bind (wpAny_pure (wpAny_throw ?_))
  refine wpAny_bind (wpAny_isInstance (T := "StopIteration") (b := true) ⟨_, Heap.get?_push_size _ rfl, rfl⟩ isSubtype_stop ?_)
  exact wpAny_pure (q _ (((Heap.SameBut.update ..).extBut.push _).push _))
theorem raw_walks (hh : A.handled = none) (I d : Addr) (hne : d ≠ I) (es : Array DictEntry) (ep : Nat) :
    Walks prog w A I [I, d] [I] es.size (fun i v => ∃ e, es[i]? = some e ∧ v = e.key) (fun i h => h.IsKeyIter I d i es.size ep ∧ RawD h d es ep) where
  sub := fun b hb => by simp at hb; simp [hb]
  frame := fun _ _ _ st hk => ⟨st.1.at fun o e => hk I (by simp) o e, st.2.at fun o e => hk d (by simp) o e⟩
  item := fun i s Q E hi st hQ => raw_next st.1 st.2 (e := es[i]) (by simp [hi]) fun h' hit' hs' => hQ _ h' s.toks ⟨_, by simp [hi], rfl⟩ ⟨hit', st.2.at fun o e => hs'.extBut d o hne e⟩ fun b o hb e => hs'.extBut b o (fun h => hb (by simp [h])) e
  done := fun s Q E st hQ => raw_end hh st.1 st.2 (by simp) fun h' he' => hQ h' s.toks fun b o hb e => he' b o (fun h => hb (by simp [h])) e
  self := fun _ _ _ _ st hQ => wpAny_pyIter_keyiter st.1 hQ
theorem raw_src (lo : (d == sysModules) = false) : KdlSrc prog w "dict" d d es.size (fun i v => ∃ e, es[i]? = some e ∧ v = e.key) (fun h => RawD h d es ep) where
  type := fun _ hm => hm.type
  there := fun _ hm => ⟨hm.lt, hm.lt⟩
  keep := fun _ _ hm hk => hm.at fun o e => hk d (.inl rfl) o e
  notList := by decide
  notTuple := by decide
  hint := fun _ _ _ _ hm hq => kdl_hint_dict hm.type hq
  iter := fun _ _ hh hm => ⟨_, _, (fun _ _ hq => raw_iter lo hm hq), raw_walks hh _ d (Nat.ne_of_lt hm.lt) es ep, ⟨⟨_, Heap.get?_push_size _ rfl, rfl, rfl⟩, hm.at fun o e => Heap.get?_push_of_some _ e⟩⟩
end
theorem raw_of {X : Cx} {pins : List (Addr × Obj)} {σ : St} {H : Hp} {s : Shared} {a : Addr} {kvs : List (List Key × V)} (I : Inv X pins σ H s) (h : Rd H a (.dT kvs)) :
    (a == sysModules) = false ∧ kvs.length ≤ sizeLine ∧ ∃ es ep, RawD s.heap a es ep ∧ es.size = kvs.length ∧ ∀ (i : Nat) (e : DictEntry), es[i]? = some e → ∃ k v b, kvs[i]? = some (k, v) ∧ e.key = .ref b ∧ H b = some (.tup (k.map kV)) := by
  obtain ⟨z, y, xs, r, o, es, ep, h1, h2, h3, h4, h5⟩ := (show ObjOk X.prog X.w H s.heap a (.dT kvs) from h.elim (fun h => I.hok a _ h) fun ⟨_, h⟩ => (show _ ∧ _ from I.hok a _ h).2)
  have l : es.size = kvs.length := by
    have := congrArg List.length h4
    simp only [Array.length_toList, List.length_map] at this
    rw [this]; exact (Paired.length r).symm
  refine ⟨y, z, es, ep, ⟨o, h1, h2, h3⟩, l, fun i e he => ?_⟩
  have he' : es.toList[i]? = some e := by simpa using he
  rw [h4, List.getElem?_map] at he'
  cases q : xs[i]? with
  | none => rw [q] at he'; cases he'
  | some p =>
    rw [q] at he'
    cases he'
    have hi : i < kvs.length := by rw [← l]; exact (Array.getElem?_eq_some_iff.mp he).1
    obtain ⟨p', e1, e2, e3, e4⟩ := paired_get r i kvs[i] (by simp [hi])
    rw [q] at e1; cases e1
    exact ⟨kvs[i].1, kvs[i].2, p.2.1, by simp [hi], rfl, e3⟩
end M

set_option Elab.async false
set_option linter.all false
set_option maxRecDepth 100000
namespace M
open PySem PySem.Spec PyProof.Rows L2

section
variable {X : Cx} {G : Fc} {a b c : Expr} {ma mb mc : EV} {pos : Pos}
theorem hu0 (gd : Gd X) : X.A.units < cLine := by have := gd.un; omega
theorem hu1 (gd : Gd X) : X.A.units + 1 < cLine := by have := gd.un; omega
theorem hu4 (gd : Gd X) : X.A.units + 4 < cLine := by have := gd.un; omega
theorem hx_of {G G' : Fc} (e : G'.xc = G.xc) (hx : ∀ c, ¬ G.xc c) : ∀ c, ¬ G'.xc c := by rw [e]; exact hx
theorem gd_in {scope : Scope} {s3 : Shared} {H3 : Hp} {fp : List Addr} {C : Addr} (gd : Gd X) : Gd (cxc X scope s3 H3 fp C) := ⟨gd.calm, PassesOwn.never, gd.nd, gd.un⟩
theorem sf_add (ha : SE X G a ma) (hb : SE X G b mb) : SF X G (.BinOp a .Add b pos) (e2 fAdd ma mb) := sf_bin op_add3 od_add ha hb
theorem sf_sub (ha : SE X G a ma) (hb : SE X G b mb) : SF X G (.BinOp a .Sub b pos) (e2 fSub ma mb) := sf_bin op_sub od_sub ha hb
theorem sf_mul (ha : SE X G a ma) (hb : SE X G b mb) : SF X G (.BinOp a .Mult b pos) (e2 fMul ma mb) := sf_bin op_mul od_mul ha hb
theorem sf_div (ha : SE X G a ma) (hb : SE X G b mb) : SF X G (.BinOp a .FloorDiv b pos) (e2 fDiv ma mb) := sf_bin op_fdiv od_div ha hb
theorem sf_mod (ha : SE X G a ma) (hb : SE X G b mb) : SF X G (.BinOp a .Mod b pos) (e2 fMod ma mb) := sf_bin op_mod od_mod ha hb
theorem sf_at (ha : SE X G a ma) (hb : SE X G b mb) (hs : PlainIx b := by intro _ _; rfl) : SF X G (.Subscript a b pos) (e2 fIx ma mb) := sf_ix hs ix_seq od_ix ha hb
theorem sf_lt (gd : Gd X) (ha : SE X G a ma) (hb : SE X G b mb) : SF X G (.Compare a [.Lt] [b] pos) (e2 fLt ma mb) := sf_cmp (op_lt2 (hu0 gd)) od_lt ha hb (nomark _)
theorem sf_eq (gd : Gd X) (ha : SE X G a ma) (hb : SE X G b mb) : SF X G (.Compare a [.Eq] [b] pos) (e2 fEq ma mb) := sf_cmp (op_eqD (hu4 gd)) od_eq ha hb (nomark _)
theorem sf_in (gd : Gd X) (ha : SE X G a ma) (hb : SE X G b mb) (hm : behindInMarks .In b = false := by with_unfolding_all rfl) : SF X G (.Compare a [.In] [b] pos) (e2 fIn ma mb) := sf_cmp (op_inD (hu4 gd)) od_in ha hb hm
theorem st_lt (gd : Gd X) (ha : SE X G a ma) (hb : SE X G b mb) : ST X G (.Compare a [.Lt] [b] pos) (tstB (e2 fLt ma mb)) := st_cmp (op_lt2 (hu0 gd)) od_lt ha hb (nomark _)
theorem st_gt (gd : Gd X) (ha : SE X G a ma) (hb : SE X G b mb) : ST X G (.Compare a [.Gt] [b] pos) (tstB (e2 fGt ma mb)) := st_cmp op_gt od_gt ha hb (nomark _)
theorem st_ge (gd : Gd X) (ha : SE X G a ma) (hb : SE X G b mb) : ST X G (.Compare a [.GtE] [b] pos) (tstB (e2 fGe ma mb)) := st_cmp (op_ge2 (hu0 gd)) od_ge ha hb (nomark _)
theorem st_eq (gd : Gd X) (ha : SE X G a ma) (hb : SE X G b mb) : ST X G (.Compare a [.Eq] [b] pos) (tstB (e2 fEq ma mb)) := st_cmp (op_eqD (hu4 gd)) od_eq ha hb (nomark _)
theorem st_ne (gd : Gd X) (ha : SE X G a ma) (hb : SE X G b mb) : ST X G (.Compare a [.NotEq] [b] pos) (tstB (e2 fNe ma mb)) := st_cmp (op_neD (hu4 gd)) od_ne ha hb (nomark _)
noncomputable def RdF (X : Cx) (G : Fc) (m : EV) : TE := fun σ H Q => ∃ E, Rel X.K G E σ H ∧ Fin (m E) (fun d => ∀ v H', Same H H' → Rp X.K H' (Ow G.pr E σ) d v → Q v H') G.xc
theorem RdF.test {m : EV} {σ : St} {H : Hp} {Q : Bool → Hp → Prop} (h : ∃ E, Rel X.K G E σ H ∧ Fin (tstB m E) (fun b => ∀ H', Same H H' → Q b H') G.xc) : RdF X G m σ H fun x H1 => ∃ k, x = .bl k ∧ Q k H1 := by
  obtain ⟨E, hr, f⟩ := h
  refine ⟨E, hr, (Fin.bind f).mono fun d p v H' s z => ?_⟩
  cases d with
  | bl k => exact ⟨k, z, p H' s⟩
  | _ => exact p.elim
theorem din_imp {m : EV} {mi mo : EV} (hm : m = e2 fDin mi mo) (σ : St) (H : Hp) (Q : VK) (h : RdF X G m σ H Q) :
    tDIn (fun σ H Q => ∃ E, Rel X.K G E σ H ∧ Fin (mi E) (fun d => ∀ v H', Same H H' → Rt X.K H' (Ow G.pr E σ) d v → Q v H') G.xc) (fun σ H Q => ∃ E, Rel X.K G E σ H ∧ Fin (mo E) (fun d => ∀ v H', Same H H' → Rt X.K H' (Ow G.pr E σ) d v → Q v H') G.xc) σ H Q := by
  subst hm
  obtain ⟨E, hr, f⟩ := h
  refine ⟨E, hr, (Fin.bind f).mono fun dx fx v H1 s1 p1 => ⟨E, hr.same s1, (Fin.bind fx).mono fun dy fy w H2 s2 p2 => ?_⟩⟩
  obtain ⟨d, e, p⟩ := Fin.of fy
  cases dy with
  | dic kvs =>
    simp only [fDin, Option.map_eq_some_iff] at e
    obtain ⟨ks, e1, rfl⟩ := e
    obtain ⟨b, rfl, hb⟩ := key_of' e1 (p1.mono s2 fun _ z => z)
    obtain ⟨a, ws, rfl, ha, rk⟩ := p2.dic
    obtain ⟨o, g1, g2⟩ := dget_is rk ha hb
    refine ⟨a, o, rfl, g1, ?_⟩
    rw [g2]
    exact p _ H2 (s1.trans s2) (by unfold Rp; rfl)
  | _ => cases e
theorem dnotin_imp {m : EV} {mi mo : EV} (hm : m = e2 fDnotIn mi mo) (σ : St) (H : Hp) (Q : VK) (h : RdF X G m σ H Q) :
    tDNotIn (fun σ H Q => ∃ E, Rel X.K G E σ H ∧ Fin (mi E) (fun d => ∀ v H', Same H H' → Rt X.K H' (Ow G.pr E σ) d v → Q v H') G.xc) (fun σ H Q => ∃ E, Rel X.K G E σ H ∧ Fin (mo E) (fun d => ∀ v H', Same H H' → Rt X.K H' (Ow G.pr E σ) d v → Q v H') G.xc) σ H Q := by
  subst hm
  obtain ⟨E, hr, f⟩ := h
  refine ⟨E, hr, (Fin.bind f).mono fun dx fx v H1 s1 p1 => ⟨E, hr.same s1, (Fin.bind fx).mono fun dy fy w H2 s2 p2 => ?_⟩⟩
  obtain ⟨d, e, p⟩ := Fin.of fy
  cases dy with
  | dic kvs =>
    simp only [fDnotIn, Option.map_eq_some_iff] at e
    obtain ⟨ks, e1, rfl⟩ := e
    obtain ⟨b, rfl, hb⟩ := key_of' e1 (p1.mono s2 fun _ z => z)
    obtain ⟨a, ws, rfl, ha, rk⟩ := p2.dic
    obtain ⟨o, g1, g2⟩ := dget_is rk ha hb
    refine ⟨a, o, rfl, g1, ?_⟩
    rw [g2]
    exact p _ H2 (s1.trans s2) (by unfold Rp; rfl)
  | _ => cases e
theorem st_dnotin (gd : Gd X) (ha : SE X G a ma) (hb : SE X G b mb) (hm : behindInMarks .NotIn b = false := by with_unfolding_all rfl) : ST X G (.Compare a [.NotIn] [b] pos) (tstB (e2 fDnotIn ma mb)) :=
  (pt_cmp (pc_dnotin (hu1 gd) ha hb) hm).imp fun σ H Q h => dnotin_imp rfl σ H _ (RdF.test h)
noncomputable def fNeg : D → Option D
  | .int i => some (.int (-i))
  | _ => none
theorem sf_neg (ha : SE X G a ma) : SF X G (.UnaryOp .USub a pos) (e1 fNeg ma) :=
  (pe_un un_neg ha).imp fun σ H Q z0 => z0.elim fun E z0 => z0.elim fun hr f => ⟨E, hr, (Fin.bind f).mono fun d p v H' s z => by
    obtain ⟨e, h1, q⟩ := Fin.of p
    cases d with
    | int i => cases h1; exact ⟨i, z.int, q _ H' s (by unfold Rp; rfl)⟩
    | _ => cases h1⟩
noncomputable def eCh (f g : D → D → Option D) (ma mb mc : EV) : EV := fun E => ma E >>= fun x => mb E >>= fun y => ofO (f x y) >>= fun t => match t with
  | .bl true => mc E >>= fun z => ofO (g y z)
  | .bl false => .ok (.bl false)
  | _ => .no
structure ChOk (X : Cx) (op : CmpOp) (r : R2) (f : D → D → Option D) : Prop where
  o : OpR X (compareOp op) r
  d : OpD X.K r f
theorem ch_lt : ChOk X .Lt (rI0 fun i j => .bl (decide (i < j))) (fun x y => match x, y with | .int i, .int j => some (.bl (decide (i < j))) | _, _ => none) := ⟨op_lt, od_int0 (g := fun i j => .bl (decide (i < j))) (fun dx dy d e => by
  cases dx with
  | int i => cases dy with
    | int j => cases e; exact ⟨i, j, rfl, rfl, rfl⟩
    | _ => cases e
  | _ => cases e) fun i j H O => by unfold Rp; rfl⟩
theorem ch_le : ChOk X .LtE (rI0 fun i j => .bl (decide (i ≤ j))) fLe := ⟨op_le, od_le⟩
noncomputable def fLtI : D → D → Option D
  | .int i, .int j => some (.bl (decide (i < j)))
  | _, _ => none
theorem ch_ltI : ChOk X .Lt (rI0 fun i j => .bl (decide (i < j))) fLtI := ⟨op_lt, od_int0 (g := fun i j => .bl (decide (i < j))) (fun dx dy d e => by
  cases dx with
  | int i => cases dy with
    | int j => cases e; exact ⟨i, j, rfl, rfl, rfl⟩
    | _ => cases e
  | _ => cases e) fun i j H O => by unfold Rp; rfl⟩
theorem ch_imp {r r' : R2} {f g : D → D → Option D} (hf : OpD X.K r f) (hg : OpD X.K r' g) (σ : St) (H : Hp) (Q : VK) (h : RdF X G (eCh f g ma mb mc) σ H Q) :
    tChain r r' (fun σ H Q => ∃ E, Rel X.K G E σ H ∧ Fin (ma E) (fun d => ∀ v H', Same H H' → Rt X.K H' (Ow G.pr E σ) d v → Q v H') G.xc)
      (fun σ H Q => ∃ E, Rel X.K G E σ H ∧ Fin (mb E) (fun d => ∀ v H', Same H H' → Rt X.K H' (Ow G.pr E σ) d v → Q v H') G.xc)
      (fun σ H Q => ∃ E, Rel X.K G E σ H ∧ Fin (mc E) (fun d => ∀ v H', Same H H' → Rt X.K H' (Ow G.pr E σ) d v → Q v H') G.xc) σ H Q := by
  obtain ⟨E, hr, f0⟩ := h
  refine ⟨E, hr, (Fin.bind f0).mono fun dx fx v H1 s1 p1 => ⟨E, hr.same s1, (Fin.bind fx).mono fun dy fy w H2 s2 p2 => ?_⟩⟩
  have ft := Fin.bind fy
  obtain ⟨d, e, p⟩ := Fin.of ft
  refine hf H2 _ dx dy d v w _ (hr.same (s1.trans s2)).sane e (rt_grow p1 s2) p2 fun u H3 s3 z => ?_
  cases d with
  | bl k =>
    cases k with
    | false => exact ⟨false, z, p _ H3 ((s1.trans s2).trans s3) (by unfold Rp; rfl)⟩
    | true =>
      refine ⟨true, z, ?_⟩
      rw [if_pos rfl]
      refine ⟨E, (hr.same ((s1.trans s2).trans s3)), (Fin.bind p).mono fun dz fz w' H4 s4 p4 => ?_⟩
      obtain ⟨d', e', p'⟩ := Fin.of fz
      exact hg H4 _ dy dz d' w w' Q (hr.same (((s1.trans s2).trans s3).trans s4)).sane e' (rt_grow (rt_grow p2 s3) s4) p4 fun u' H5 s5 z' => p' u' H5 ((((s1.trans s2).trans s3).trans s4).trans s5) z'
  | _ => exact p.elim
theorem sf_ch {op op' : CmpOp} {r r' : R2} {f g : D → D → Option D} (h1 : ChOk X op r f) (h2 : ChOk X op' r' g) (ha : SE X G a ma) (hb : SE X G b mb) (hc : SE X G c mc) (hm : lastMarks [op, op'] [b, c] = false := by with_unfolding_all rfl) :
    SF X G (.Compare a [op, op'] [b, c] pos) (eCh f g ma mb mc) := (pe_chain h1.o h2.o ha hb hc hm).imp fun σ H Q h => ch_imp h1.d h2.d σ H Q h
end

section
variable {X : Cx} {G : Fc} {e : Expr} {m : EV}
noncomputable def flat : D → R D
  | .non => .ok .non
  | .bl b => .ok (.bl b)
  | .int i => .ok (.int i)
  | .str s => .ok (.str s)
  | _ => .no
noncomputable def eLoose (i : Nat) (m : EV) : EV := fun E => m (frz i E) >>= flat
end

section
variable {X : Cx} {G : Fc} {r : List V → Hp → VK → Prop} {f : D → D → Option D} {x : Str} {p pos : Pos} {a b : Expr} {ma mb : EV}
noncomputable def fMax : D → D → Option D
  | .int i, .int j => some (.int (if j > i then j else i))
  | _, _ => none
noncomputable def fMin : D → D → Option D
  | .int i, .int j => some (.int (if j < i then j else i))
  | _, _ => none
end
section
variable {X : Cx} {G : Fc} {p pos : Pos} {e : Expr} {m : EV}
theorem sf_len (hg : Gl X "len") (hm : X.mg "len" = none) (he : SE X G e m) (hs : starEach [e] X.env = (false, eval e X.env) :: starEach [] X.env := by rfl) (hpl : (backTo pos (starEach [] X.env)).any (·.1) = false := by rfl) : SF X G (.Call (.Name "len" p) [e] [] pos) (e1 fLen m) :=
  sf_callB call_len cd_len hg hm PySem.boot_len he (hs := hs) (hpl := hpl)
theorem sn_list (hg : Gl X "list") (hm : X.mg "list" = none) (he : SE X G e m) (hs : starEach [e] X.env = (false, eval e X.env) :: starEach [] X.env := by rfl) (hpl : (backTo pos (starEach [] X.env)).any (·.1) = false := by rfl) : SN X G (.Call (.Name "list" p) [e] [] pos) (e1 fList m) :=
  sn_callT call_list cn_list hg hm (by decide +kernel) he (hs := hs) (hpl := hpl)
theorem sf_all (gd : Gd X) (hg : Gl X "all") (hm : X.mg "all" = none) (he : SE X G e m) (hs : starEach [e] X.env = (false, eval e X.env) :: starEach [] X.env := by rfl) (hpl : (backTo pos (starEach [] X.env)).any (·.1) = false := by rfl) : SF X G (.Call (.Name "all" p) [e] [] pos) (e1 fAll m) :=
  sf_callB (call_allL gd.calm) cd_all hg hm (by decide +kernel) he (hs := hs) (hpl := hpl)
end

inductive Ty where
  | bool | int | list | tuple | str
noncomputable def Ty.nm : Ty → String
  | .bool => "bool" | .int => "int" | .list => "list" | .tuple => "tuple" | .str => "str"
noncomputable def fIsi : Ty → D → Option D
  | .bool, .bl _ => some (.bl true)
  | .int, .bl _ => some (.bl true)
  | .int, .int _ => some (.bl true)
  | .list, .lst _ => some (.bl true)
  | .tuple, .tup _ => some (.bl true)
  | .str, .str _ => some (.bl true)
  | _, .non => some (.bl false)
  | _, .bl _ => some (.bl false)
  | _, .int _ => some (.bl false)
  | _, .str _ => some (.bl false)
  | _, .tup _ => some (.bl false)
  | _, .lst _ => some (.bl false)
  | _, _ => none
end M

set_option Elab.async false
set_option linter.all false
set_option maxRecDepth 100000
namespace M
open PySem PySem.Spec PyProof.Rows L2
section
variable {X : Cx} {G : Fc} {p p2 pos : Pos} {e : Expr} {m : EV}
theorem rt_ty {K : PySem.W.Frag} {H : Hp} {O : Addr → Prop} {t : Ty} {d d' : D} {v : V} (e : fIsi t d = some d') (r : Rt K H O d v) : ∃ tv b, d' = .bl b ∧ TyOf K H v tv ∧ PySem.W.kitOne K tv (.type t.nm) = some b := by
  cases d with
  | non => rw [r.non]; cases t <;> (cases e; exact ⟨_, _, rfl, .non, rfl⟩)
  | bl b => rw [r.bl]; cases t <;> (cases e; exact ⟨_, _, rfl, .bl _, rfl⟩)
  | int b => rw [r.int]; cases t <;> (cases e; exact ⟨_, _, rfl, .int _, rfl⟩)
  | str b => rw [r.str]; cases t <;> (cases e; exact ⟨_, _, rfl, .str _, rfl⟩)
  | tup ds => obtain ⟨a, vs, rfl, h1, _⟩ := r.tup; cases t <;> (cases e; exact ⟨_, _, rfl, .tup h1, rfl⟩)
  | lst ds => obtain ⟨a, vs, rfl, h1, _⟩ := r.lst; cases t <;> (cases e; exact ⟨_, _, rfl, .lst h1, rfl⟩)
  | dic ds => cases t <;> cases e
  | scr ds => cases t <;> cases e
noncomputable def rIsi (K : PySem.W.Frag) : List V → Hp → VK → Prop := fun xs H Q => ∃ x T tv b, xs = [x, .ty T] ∧ TyOf K H x tv ∧ PySem.W.kitOne K tv (.type T) = some b ∧ Q (.bl b) H
theorem call_isi : CallR X (.builtin "isinstance") (rIsi X.K) := by
  intro pins s σ H xs us Q I r h
  obtain ⟨x, T, tv, b, rfl, ty, e, q⟩ := h
  obtain ⟨u, w', rfl, r1, r2⟩ := vals2 r
  cases r2
  exact isinst_ok I r1 ty e fun tk => ⟨.bl b, H, I.tok _, rfl, q⟩
theorem sf_isi (t : Ty) {x : Str} (hg : Gl X "isinstance") (hm : X.mg "isinstance" = none) (hg2 : Gl X x) (hm2 : X.mg x = none) (he : SE X G e m) (hv2 : bootBuiltins x = some (.type t.nm) := by decide +kernel) (hn2 : x ≠ "__name__" := by decide) (hdb2 : (x == ("__debug__" : Str)) = false := by decide)
    (hs : starEach [e, .Name x p2] X.env = (false, eval e X.env) :: starEach [.Name x p2] X.env := by rfl) (hs2 : starEach [.Name x p2] X.env = (false, eval (.Name x p2) X.env) :: starEach [] X.env := by rfl) (hpl : (backTo pos (starEach [.Name x p2] X.env)).any (·.1) = false := by rfl) :
    SF X G (.Call (.Name "isinstance" p) [e, .Name x p2] [] pos) (e1 (fIsi t) m) :=
  (pe_callB call_isi hg hm (by decide +kernel) (pa_cons he (pa_cons (pe_bltn (v := .ty t.nm) hg2 hm2 hv2 rfl hn2 hdb2) pa_nil hs2) hs) (he := hs) (hpl := hpl)).imp fun σ H Q z0 => z0.elim fun E z0 => z0.elim fun hr h => ⟨E, hr, (Fin.bind h).mono fun dx fx v H1 s1 p1 => by
    obtain ⟨d, e, q⟩ := Fin.of fx
    obtain ⟨tv, b, rfl, ty, ek⟩ := rt_ty e p1
    exact ⟨v, t.nm, tv, b, rfl, ty, ek, q _ H1 s1 (by unfold Rp; rfl)⟩⟩
end
end M

set_option Elab.async false
set_option linter.all false
set_option maxRecDepth 100000
namespace M
open PySem PySem.Spec PyProof.Rows L2
structure Dfn (K : PySem.W.Frag) (mg : Str → Option Value) (x : Str) (st : Stmt) (f : Addr) (fd : FuncData) : Prop where
  fn : Fun K x x st f fd
  mg : mg x = some (.ref f)
structure Cal (P : Program) (w : World) (K : PySem.W.Frag) (mg : Str → Option Value) (base : Heap) (x : Str) (ps : List Str) (k : Nat) (dn : List D → R D) : Prop where
  ex : ∃ (f : Addr) (fd : FuncData), mg x = some (.ref f) ∧ PySem.W.keepIn K (.ref f) = true ∧ Binds K fd ps [] ∧ FnOk P w K mg base CX0 k f fd ps (spD K ps.length dn)
section
variable {P : Program} {w : World} {K : PySem.W.Frag} {mg : Str → Option Value} {base : Heap} {x qual : Str} {st : Stmt} {f : Addr} {fd : FuncData} {N ps : List Str} {k : Nat} {m : EX}
theorem fn_okG (F : Fun K x qual st f fd) (S : FnScope N ps (defScope st))
    (hb : ∀ (cdv : Value) (A : Around) (outer : List Env) (s : Shared) (H : Hp) (E : XK), Room k (bx P w K mg base N qual (defScope st) f cdv A outer s H E).A → Gd (bx P w K mg base N qual (defScope st) f cdv A outer s H E) → ∀ G : Fc, (∀ c, ¬ G.xc c) → SB (bx P w K mg base N qual (defScope st) f cdv A outer s H E) G (defBody st) m) :
    FnOk P w K mg base CX0 (k + 1) f fd ps (spD K ps.length (den N.length m)) :=
  F.ok S (fun vs H Q E h => h.1) fun cdv A outer s H vs Q E hr ⟨hl, pr, ds, hp, rs, f⟩ => by
    have gd : Gd (bx P w K mg base N qual (defScope st) _ cdv A outer s H E) := ⟨rfl, PassesOwn.never, S.nd, by have := hr.units; exact Nat.lt_of_le_of_lt (Nat.add_le_add_left (by decide) _) this⟩
    refine ⟨_, hb cdv A outer s H E hr gd ⟨H, pr, fun _ => False⟩ (fun _ h => h), startE N.length ds, rel_start hp rs, ?_⟩
    refine (Fin.bind f).mono fun o p => ?_
    cases o with
    | rt d => exact fun v H' s z => p v H' s z
    | nx E' => exact fun σ' H' r' => p .non H' r'.base (by unfold Rp; rfl)
    | bk E' => exact p.elim
    | ct E' => exact p.elim
end
section
variable {X : Cx} {G : Fc} {k j : Nat} {ps : List Str} {dn : List D → R D} {x : Str} {p pos : Pos} {e : Expr} {es : List Expr} {ma : Ev → R (List D)}
theorem sf_cal (C : Cal X.prog X.w X.K X.mg X.base x ps k dn) (hx : ∀ c, ¬ G.xc c) (hr : Room j X.A) (hk : k ≤ j) (hg : Gl X x) (ha : SA X G (e :: es) ma) (hdb : (x == ("__debug__" : Str)) = false := by decide) (he : starEach (e :: es) X.env = (false, eval e X.env) :: starEach es X.env := by rfl) (hpl : (backTo pos (starEach es X.env)).any (·.1) = false := by rfl) :
    SF X G (.Call (.Name x p) (e :: es) [] pos) (eCall ps.length dn ma) := by
  obtain ⟨f, fd, hm, hk', hb, F⟩ := C.ex
  exact sf_call F hx (hr.mono hk) hg hm hk' hb ha hdb he hpl
end
theorem hset_n (i : Nat) : ∀ d E E', gN i d E = some E' → clr [i] E' = clr [i] E := fun d E E' h => by
  unfold gN at h
  cases h
  show (E.set i (.fz d)).set i .un = E.set i .un
  rw [List.set_set]
theorem hset_t (i j : Nat) : ∀ d E E', gT i j d E = some E' → clr [i, j] E' = clr [i, j] E := fun d E E' h => by
  unfold gT at h
  split at h
  · cases h
    rename_i a b
    show (((((E.set i (.fz a)).set j (.fz b)).set i .un).set j .un)) = ((E.set i .un).set j .un)
    by_cases e : i = j
    · subst e; simp
    · rw [List.set_comm _ _ (Ne.symm e), List.set_set]
      rw [List.set_comm (l := E) _ _ e]
      simp [List.set_set]
      rw [List.set_comm _ _ (Ne.symm e)]
  · cases h
end M

set_option Elab.async false
set_option linter.all false
set_option maxRecDepth 100000
namespace M
open PySem PySem.Spec PyProof.Rows L2
section
variable {X : Cx} {pins : List (Addr × Obj)} {σ : St} {H : Hp} {s : Shared} {a b : Addr} {kvs : List (List Key × V)} {k : List Key} {v : V} {r : Value} {A : Around} {E : Value → Shared → Prop}
theorem d_dictSetT {Q : Unit → Shared → Prop} (hu : A.units < cLine) (I : Inv X pins σ H s) (e : H a = some (.dT kvs)) (eb : H b = some (.tup (k.map kV))) (l : kvs.length < sizeLine) (rv : RelV v r)
    (h : ∀ h' tk, Inv X pins σ (upd H a (.dT (putK kvs k v))) { s with heap := h', toks := tk } → Heap.SameBut a s.heap h' → Q () { s with heap := h', toks := tk }) : wpAny (model X.prog X.w) A (dictSet a (.ref b) r) Q E s := by
  obtain ⟨z, hd, xs, rel, dd⟩ := dt_of I.hok e
  have hz : xs.length ≤ sizeLine := by rw [← Paired.length rel]; exact z
  have hl : (putK kvs k v).length ≤ sizeLine := by have := length_putK kvs k v; omega
  refine wpAny_dictSet_heap (hsz := hz) (knd := tupleKind (mixKind X.prog X.w)) hu (key_of I.hok eb) dd fun h' dd' hs => h h' _ ?_ hs
  obtain ⟨q, es, ep, hq, h2, h3, h4, _, h5⟩ := dd'
  refine d_write I (by rw [e]; exact True.intro) hs ⟨q, hq⟩ ⟨hl, hd, _, (rel.put k eb rv).keeps fun c ys ec => ?_, q, es, ep, hq, h2, h3, h4, h5⟩
  rw [upd_ne (ne_of ec e (fun z => nomatch z))]
  exact ec
end
section
variable {X : Cx} {pos : Pos} {k v : Expr} {tk tv : TE}
end
noncomputable def flatB : D → Bool
  | .non => true | .bl _ => true | .int _ => true | .str _ => true
  | _ => false
noncomputable def eD1 (mk mv : EV) : EV := fun E => mk E >>= fun k => mv E >>= fun v => match keyOf k with
  | some ks => if flatB v = true then .ok (.dic [(ks, v)]) else .no
  | none => .no
section
variable {X : Cx} {G : Fc} {pos : Pos} {k v : Expr} {mk mv : EV}
end
end M

set_option Elab.async false
set_option linter.all false
set_option maxRecDepth 100000
namespace PySem
open Sem (wp)
end PySem

set_option Elab.async false
set_option linter.all false
set_option maxRecDepth 100000
namespace PySem.F
theorem my_entry_upd_loop : entryFor table "dict.update.loop" = some Builtin.«dict.update.loop» := entryFor_of_tree (by kernel_rfl)
theorem my_plain_upd_loop : plainId "dict.update.loop" = true := by decide +kernel
end PySem.F
namespace M
open PySem PySem.Spec PyProof.Rows L2
noncomputable def PairAt (H : Hp) (y : V) (kv : List Key × V) : Prop := ∃ a b, y = .ref a ∧ H a = some (.tup [.ref b, kv.2]) ∧ H b = some (.tup (kv.1.map kV))
noncomputable def mergeT (kvs more : List (List Key × V)) : List (List Key × V) := more.foldl (fun acc kv => putK acc kv.1 kv.2) kvs
section
variable {X : Cx} {pins : List (Addr × Obj)} {σ : St}
theorem PairAt.grow {H H' : Hp} {y : V} {kv : List Key × V} (h : PairAt H y kv) (t : ∀ b ys, H b = some (.tup ys) → H' b = some (.tup ys)) : PairAt H' y kv := by
  obtain ⟨a, b, e, h1, h2⟩ := h
  exact ⟨a, b, e, t _ _ h1, t _ _ h2⟩
theorem upd_loop {A : Around} {R : Result → Shared → Prop} {p d it : Addr} {ys : List V} {kys : List (List Key × V)} {res : Value} (hh : A.handled = none) (hu : A.in1.units < cLine) : ∀ (n i : Nat) (kvs : List (List Key × V)) (H : Hp) (s : Shared) (tk : Tok), n = ys.length - i → i ≤ ys.length → Inv X pins σ H s → H d = some (.dT kvs) → s.heap.IsListIter it p i → FpOk X pins H it → SqL X.K H p ys → Paired (PairAt H) ys kys → kvs.length + n < sizeLine → d ≠ p →
    (∀ s', Inv X pins σ (upd H d (.dT (mergeT kvs (kys.drop i)))) s' → R (.ok (.ret res)) s') → codeAny (model X.prog X.w) A (.builtin "dict.update.loop" ⟨[.ref d, .ref it, .int i tk, res], []⟩) R s := by
  intro n
  induction n with
  | zero =>
    intro i kvs H s tk hn hi I hd hit hf hp pr hz ne hR
    have hi' : i = ys.length := by omega
    subst hi'
    refine codeAny_builtin F.my_entry_upd_loop ?_
    rw [Around.under_plainId F.my_plain_upd_loop _]
    obtain ⟨its, rv, pl, hzz⟩ := I.list hp
    obtain ⟨f0, f1, f2, f3, f4, f5⟩ := hf
    show wpAny _ A.in1 (pyNext (.ref it) >>= _) _ _ s
    refine wpAny_bind (wpAny_pyNext_list_end hh hit pl.isList (by simp; rw [← rv.length]; exact Nat.le_refl _) fun h' eb => ?_)
    have I' : Inv X pins σ H { s with heap := h' } := I.turned (t' := s.toks) (fun b o hb e => eb b o hb e) f0 f1 f3 f4 f5
    have e0 : kys.drop ys.length = [] := by rw [Paired.length pr]; simp
    rw [e0] at hR
    have e1 : upd H d (.dT (mergeT kvs [])) = H := by
      funext b
      unfold upd
      split
      · rename_i hb; rw [hb, hd]; rfl
      · rfl
    rw [e1] at hR
    exact wpAny_bind (wpAny_pure (wpAny_pure (hR _ I')))
  | succ n ih =>
    intro i kvs H s tk hn hi I hd hit hf hp pr hz ne hR
    have hlt : i < ys.length := by omega
    refine codeAny_builtin F.my_entry_upd_loop ?_
    rw [Around.under_plainId F.my_plain_upd_loop _]
    obtain ⟨its, rv, pl, hzz⟩ := I.list hp
    obtain ⟨f0, f1, f2, f3, f4, f5⟩ := id hf
    obtain ⟨kv, ekv, a, b, ea, ha, hb⟩ := paired_get pr i ys[i] (by simp [hlt])
    obtain ⟨u, eu, ru⟩ := rv.get (i := i) (x := ys[i]) (by simp [hlt])
    rw [ea] at ru
    cases ru
    show wpAny _ A.in1 (pyNext (.ref it) >>= _) _ _ s
    refine wpAny_bind (wpAny_pyNext_list_item hit pl.isList (x := .ref a) (by simpa using eu) fun h' st' sb => ?_)
    have I1 : Inv X pins σ H { s with heap := h' } := I.turned (t' := s.toks) (fun b o hb e => (sb.2 b hb).trans e) f0 f1 f3 f4 f5
    obtain ⟨z2, its2, rv2, o2, g1, g2, n2, g3⟩ := (show ObjOk X.prog X.w H h' a (.tup [.ref b, kv.2]) from I1.hok a _ ha)
    obtain ⟨ub, uv, rfl, r1, r2⟩ := vals2 rv2
    cases r1
    have hT : ({ s with heap := h' } : Shared).TypeIs (.ref a) "tuple" := ⟨o2, g1, g2⟩
    refine wpAny_bind (wpAny_holding (wpAny_bind (wpAny_tryCatch ?_)))
    unfold Builtin.Dict.pairItems
    refine wpAny_bind (wpAny_typeOf hT ?_)
    rw [if_pos (by decide)]
    refine wpAny_bind ?_
    unfold seqItems?
    refine wpAny_bind (wpAny_load g1 ?_)
    rw [g3]
    refine wpAny_pure (wpAny_pure ?_)
    show wpAny _ _ (holding [Value.ref b, uv] (dictSet d (.ref b) uv)) _ _ _
    refine wpAny_holding (d_dictSetT hu I1 hd hb (by omega) r2 fun h2 tk2 I2 sb2 => ?_)
    have nit : it ≠ d := fun z => by rw [z, hd] at f0; cases f0
    have keepT : ∀ c ws, H c = some (.tup ws) → (upd H d (.dT (putK kvs kv.1 kv.2))) c = some (.tup ws) := fun c ws ec => by
      rw [upd_ne (ne_of ec hd (fun z => nomatch z))]; exact ec
    refine wpAny_pure ⟨plainId_quiet F.my_plain_upd_loop _, ih (i + 1) (putK kvs kv.1 kv.2) (upd H d (.dT (putK kvs kv.1 kv.2))) _ _ (by omega) hlt I2 upd_same (st'.at fun o e => (sb2.2 it nit).trans e) ?_ ?_ (Paired.imp' (fun y z h => h.grow keepT) pr) ?_ ne fun s' I' => ?_⟩
    · exact ⟨by rw [upd_ne nit]; exact f0, f1, f2, f3, f4, f5⟩
    · rcases hp with (hp | ⟨o, hp⟩) | hp
      · exact .inl (.inl (by rw [upd_ne (Ne.symm ne)]; exact hp))
      · exact .inl (.inr ⟨o, by rw [upd_ne (Ne.symm ne)]; exact hp⟩)
      · exact .inr hp
    · have := length_putK kvs kv.1 kv.2; omega
    · refine hR s' ?_
      have hk : kys.drop i = kv :: kys.drop (i + 1) := by
        obtain ⟨hi2, e2⟩ := List.getElem?_eq_some_iff.mp ekv
        rw [List.drop_eq_getElem_cons hi2, e2]
      rw [hk]
      rw [upd_upd] at I'
      exact I'
end
end M

set_option Elab.async false
set_option linter.all false
set_option maxRecDepth 100000
namespace M
open PySem PySem.Spec PyProof.Rows L2
noncomputable def dPair : D → Option (List Int × D)
  | .tup [k, v] => (keyOf k).map fun ks => (ks, v)
  | _ => none
noncomputable def dPairs : List D → Option (List (List Int × D))
  | [] => some []
  | d :: r => (dPair d).bind fun p => (dPairs r).map fun ps => p :: ps
noncomputable def dputs (kvs : List (List Int × D)) (more : List (List Int × D)) : List (List Int × D) := more.foldl (fun acc kv => dput acc kv.1 kv.2) kvs
noncomputable def fDict : D → Option D
  | .lst ds => if ds.length ≤ 1000000 then (dPairs ds).map fun ps => .dic (dputs [] ps) else none
  | _ => none
section
variable {K : PySem.W.Frag} {H : Hp} {O : Addr → Prop}
end
section
variable {X : Cx} {G : Fc} {p pos : Pos} {e : Expr} {m : EV}
end
end M

set_option Elab.async false
set_option linter.all false
set_option maxRecDepth 100000
namespace M
open PySem PySem.Spec PyProof.Rows L2
theorem loc_of {N : List Str} {sc : Scope} {ts : List Nat} (h : ((List.range N.length).all fun i => ts.contains i || !(sc.names.lookup (N.getD i Str.empty) == some NameKind.local)) = true) : ∀ (i : Nat) x, N[i]? = some x → sc.names.lookup x = some .local → i ∈ ts := fun i x hi hl => by
  have hlt : i < N.length := (List.getElem?_eq_some_iff.mp hi).1
  have := List.all_eq_true.mp h i (by simpa using hlt)
  rw [List.getD_eq_getElem?_getD, hi] at this
  simp only [Option.getD_some, hl] at this
  have e : (some NameKind.local == some NameKind.local) = true := rfl
  rw [e] at this
  simpa using this
noncomputable def FreeOk (X : Cx) : List (Str × NameKind) → Prop
  | [] => True
  | y :: r => (y.2 = .free → X.env.kindOf y.1 = some .cell ∨ X.env.kindOf y.1 = some .free) ∧ FreeOk X r
theorem FreeOk.all {X : Cx} : ∀ {l : List (Str × NameKind)}, FreeOk X l → ∀ y ∈ l, y.2 = .free → X.env.kindOf y.1 = some .cell ∨ X.env.kindOf y.1 = some .free
  | [], _, y, hy, _ => by simp at hy
  | z :: r, h, y, hy, hf => by
    rcases List.mem_cons.mp hy with e | e
    · subst e; exact h.1 hf
    · exact FreeOk.all h.2 y e hf
theorem cs_of {X : Cx} {sc : Scope} (h1 : sc.kind = .function) (h2 : (sc.names.all fun y => !(y.2 == NameKind.cell)) = true) (h3 : (sc.names.all fun y => sc.names.lookup y.1 == some y.2) = true) (h4 : FreeOk X sc.names) : CScope X sc where
  kind := h1
  nocell := fun y hy e => by
    have := List.all_eq_true.mp h2 y hy
    rw [e] at this
    exact absurd this (by decide)
  names := fun y hy => by
    have := List.all_eq_true.mp h3 y hy
    cases q : sc.names.lookup y.1 with
    | none => rw [q] at this; cases z : y.2 <;> (rw [z] at this; exact absurd this (by decide))
    | some k =>
      rw [q] at this
      cases z : y.2 <;> cases k <;> first | rfl | (rw [z] at this; exact absurd this (by decide))
  free := h4.all
noncomputable def fuel : Nat := 1000000
theorem sf_gint {X : Cx} {G : Fc} {x : Str} {i : Int} {pos : Pos} (h : ∃ t, X.mg x = some (.int i t)) (hg : Gl X x) (hd : (x == ("__debug__" : Str)) = false := by decide) : SF X G (.Name x pos) (kE (.int i)) := by
  obtain ⟨t, h⟩ := h
  exact sf_glob hg h ⟨t, rfl⟩ hd
end M

set_option Elab.async false
set_option linter.all false
set_option maxRecDepth 100000
namespace M
open PySem PySem.Spec PyProof.Rows L2
structure Ent (K : PySem.W.Frag) (x : Str) (st : Stmt) (f : Addr) : Prop where
  a : PySem.W.nsIn K mainGlobals x = some (some (.ref f))
  l : ∃ fd, Fun K x x st f fd
theorem ent_mk {K : PySem.W.Frag} {x : Str} {st : Stmt} {f : Addr} {oc : Value} {od an : Option Addr} {sl : Array (Option Value)} {kV dc pm cd ct : Value} (a : PySem.W.nsIn K mainGlobals x = some (some (.ref f)))
    (l : K.lookup f = some ⟨oc, od, .func (PySem.W.fnOf x x (defArgs st) (defBody st) (defScope st) .none kV dc pm an cd ct), sl⟩) (c : PySem.W.codeIn K cd x = true) (k : PySem.W.keepIn K (.ref f) = true) : Ent K x st f := ⟨a, _, fun_mk l c k⟩
theorem ent_ex {K : PySem.W.Frag} {h : Heap} {x : Str} {st : Stmt} {f : Addr} {oc : Value} {od an : Option Addr} {sl : Array (Option Value)} {kV dc pm cd ct : Value} (_ : K.In h) (a : PySem.W.nsIn K mainGlobals x = some (some (.ref f)))
    (l : K.lookup f = some ⟨oc, od, .func (PySem.W.fnOf x x (defArgs st) (defBody st) (defScope st) .none kV dc pm an cd ct), sl⟩) (c : PySem.W.codeIn K cd x = true) (k : PySem.W.keepIn K (.ref f) = true) : ∃ f, Ent K x st f := ⟨f, ent_mk a l c k⟩
theorem int_ex {K : PySem.W.Frag} {h : Heap} {x : Str} {i : Int} {t : Tok} (_ : K.In h) (a : PySem.W.nsIn K mainGlobals x = some (some (.int i t))) : ∃ t, PySem.W.nsIn K mainGlobals x = some (some (.int i t)) := ⟨t, a⟩
theorem Ent.dfn {K : PySem.W.Frag} {h : Heap} {mg : Str → Option Value} {x : Str} {st : Stmt} {f : Addr} (e : Ent K x st f) (X : K.In h) (G : h.Ns mainGlobals mg) : ∃ fd, Dfn K mg x st f fd := by
  obtain ⟨fd, F⟩ := e.l
  exact ⟨fd, F, PySem.W.mg_of X G e.a⟩
theorem sp_law {dn : List D → R D} {K : PySem.W.Frag} {H : Hp} {a : Addr} {ns : List Int} (hl : ns.length ≤ 63) (hS : SqL K H a (ns.map V.int)) (h : ∀ ns : List Int, ns.length ≤ 63 → dn [.scr ns] = .ok (.bl true)) : spD K 1 dn [.ref a] H (fun v _ => v = .bl true) fun _ _ _ => False := by
  refine ⟨rfl, fun _ => False, [.scr ns], fun _ h => h.elim, Rps.cons ?_ Rps.nil, ?_⟩
  · unfold Rp
    refine ⟨a, rfl, ?_⟩
    rcases hS with h | h
    · exact .inl ⟨id, h⟩
    · exact .inr (.inr h)
  · rw [h ns hl]
    exact fun v H' _ r => by unfold Rp at r; exact r
theorem law_end {P : Program} {w : World} {K : PySem.W.Frag} {mg : Str → Option Value} {fa : Addr} {k : Nat} {dn : List D → R D} {st : Stmt} {f : Addr} {fd : FuncData} (hfa : mg "law" = some (.ref fa)) (Dn : Dfn K mg "law" st f fd)
    (hb : ∀ (s : Shared) (v : Value), BindsTo s fd ⟨[v], []⟩ [("script", v)])
    (h : ∀ base : Heap, FnOk P w K mg base CX0 k f fd ["script"] (spD K 1 dn)) :
    ∃ fd : FuncData, (∀ (s : Shared) (v : Value), BindsTo s fd ⟨[v], []⟩ [("script", v)]) ∧ ∀ base : Heap, K.In base → base.Ns mainGlobals mg → FnOk P w K mg base CX0 k fa fd ["script"] (spD K 1 dn) := by
  have e := hfa.symm.trans Dn.mg
  cases e
  exact ⟨fd, hb, fun base _ _ => h base⟩
theorem Fun.one {K : PySem.W.Frag} {x qual : Str} {st : Stmt} {f : Addr} {fd : FuncData} {p : Str} (F : Fun K x qual st f fd)
    (h : ∀ (kV doc pm : Value) (an : Option Addr) (cdv ct u : Value), bindArgs (PySem.W.fnOf x qual (defArgs st) (defBody st) (defScope st) .none kV doc pm an cdv ct) ⟨[u], []⟩ = pure [(p, u)]) (s : Shared) (v : Value) : BindsTo s fd ⟨[v], []⟩ [(p, v)] := by
  obtain ⟨oc, od, kV, doc, pm, an, cdv, ct, osl, rfl, lk, hcd⟩ := F.ex
  exact .of_eq (h kV doc pm an cdv ct v)
end M

set_option Elab.async false
set_option linter.all false
set_option maxRecDepth 100000
namespace M
open PySem PySem.W PySem.Spec PyProof.Rows L2
noncomputable def dTup : D → Option (List Int)
  | .tup ds => (dInts ds).bind fun ns => if ns.isEmpty then none else some ns
  | _ => none
noncomputable def dTups : List D → Option (List (List Int))
  | [] => some []
  | d :: r => (dTup d).bind fun p => (dTups r).map fun ps => p :: ps
noncomputable def kT (k : List Int) : D := .tup (k.map D.int)
noncomputable def fSort : D → Option D
  | .lst ds => (dTups ds).bind fun ks => if ks.length < 64 then some (.lst ((sortK ks).map kT)) else none
  | _ => none
section
variable {K : PySem.W.Frag} {H : Hp} {O : Addr → Prop}
theorem tup_at {d : D} {v : V} {k : List Int} (e : dTup d = some k) (r : Rp K H O d v) : TupAt H v k ∧ k ≠ [] ∧ ∀ a, v = .ref a → ¬ O a := by
  cases d with
  | tup ds =>
    simp only [dTup, Option.bind_eq_some_iff] at e
    obtain ⟨ns, e1, e2⟩ := e
    have hd := ints_some e1
    subst hd
    unfold Rp at r
    obtain ⟨a, vs, rfl, no, ha, rs⟩ := r
    have hv := rs.ints
    subst hv
    split at e2
    · cases e2
    · rename_i he
      cases e2
      exact ⟨⟨a, rfl, ha⟩, by intro z; subst z; simp at he, fun b hb => by cases hb; exact no⟩
  | _ => cases e
theorem tups_at : ∀ {ds : List D} {vs : List V} {ks : List (List Int)}, dTups ds = some ks → Rps K H O ds vs → Paired (TupAt H) vs ks ∧ (∀ k ∈ ks, k ≠ []) ∧ ∀ v ∈ vs, ∀ a, v = .ref a → ¬ O a
  | [], vs, ks, e, r => by
    unfold Rps at r; subst r
    cases e
    exact ⟨.nil, by simp, by simp⟩
  | d :: ds, vs, ks, e, r => by
    unfold Rps at r
    obtain ⟨v, vr, rfl, p, rs⟩ := r
    unfold dTups at e
    rw [Option.bind_eq_some_iff] at e
    obtain ⟨q, e1, e2⟩ := e
    rw [Option.map_eq_some_iff] at e2
    obtain ⟨qs, e3, rfl⟩ := e2
    obtain ⟨h1, h2, h3⟩ := tup_at e1 p
    obtain ⟨h4, h5, h6⟩ := tups_at e3 rs
    refine ⟨.cons h1 h4, fun k hk => ?_, fun u hu => ?_⟩
    · rcases List.mem_cons.mp hk with e | e
      · rw [e]; exact h2
      · exact h5 k e
    · rcases List.mem_cons.mp hu with e | e
      · rw [e]; exact h3
      · exact h6 u e
theorem tups_back : ∀ {vs : List V} {ks : List (List Int)}, Paired (TupAt H) vs ks → (∀ v ∈ vs, ∀ a, v = .ref a → ¬ O a) → Rps K H O (ks.map kT) vs
  | _, _, .nil, _ => Rps.nil
  | _, _, .cons (a := v) (b := k) h t, hn => by
    rw [List.map_cons]
    refine Rps.cons ?_ (tups_back t fun u hu => hn u (List.mem_cons_of_mem _ hu))
    obtain ⟨a, rfl, ha⟩ := h
    unfold kT Rp
    exact ⟨a, _, rfl, hn _ (by simp) a rfl, ha, rps_of_ints _⟩
theorem cn_sort : CallN K (rSorted K) fSort := fun H O dx d v Q fr e rx q => by
  cases dx with
  | lst ds =>
    simp only [fSort, Option.bind_eq_some_iff] at e
    obtain ⟨ks, e1, e2⟩ := e
    split at e2
    · rename_i hl
      cases e2
      obtain ⟨a, vs, rfl, h1, r1⟩ := rx.lst
      obtain ⟨p1, p2, p3⟩ := tups_at e1 r1
      refine ⟨a, vs, ks, rfl, SqL.of h1, p1, p2, hl, fun l outs hl ho po => q l _ (same_upd hl) hl ⟨_, upd_same, ?_⟩⟩
      exact ((tups_back (K := K) po fun u hu => p3 u (ho u hu)).fresh hl).mono (same_upd hl) fun _ z => z
    · cases e2
  | _ => cases e
end
section
variable {X : Cx} {G : Fc} {p pos : Pos} {e : Expr} {m : EV}
theorem sn_sort (gd : Gd X) (hg : Gl X "sorted") (hm : X.mg "sorted" = none) (he : SE X G e m) (hs : starEach [e] X.env = (false, eval e X.env) :: starEach [] X.env := by rfl) (hpl : (backTo pos (starEach [] X.env)).any (·.1) = false := by rfl) : SN X G (.Call (.Name "sorted" p) [e] [] pos) (e1 fSort m) :=
  sn_callB call_sorted cn_sort hg hm (by decide +kernel) he (hs := hs) (hpl := hpl)
end
noncomputable def rSortedD : List V → Hp → VK → Prop := fun xs H Q => ∃ (p : Addr) (kvs : List (List Key × V)) (ks : List (List Int)), xs = [.ref p] ∧ Rd H p (.dT kvs) ∧ kvs.map (·.1) = ks.map (fun k => k.map Sum.inl) ∧ (∀ k ∈ ks, k ≠ []) ∧ ks.length < 64 ∧
  ∀ l outs, H l = none → Paired (TupAt H) outs (sortK ks) → Q (.ref l) (upd H l (.lst outs))
theorem mk_ys {H : Hp} : ∀ (vs : List Value) (ks : List (List Int)), vs.length = ks.length → (∀ (j : Nat) (v : Value), vs[j]? = some v → ∃ b k, v = .ref b ∧ ks[j]? = some k ∧ H b = some (.tup (k.map V.int))) → ∃ ys, Vals ys vs ∧ Paired (TupAt H) ys ks
  | [], [], _, _ => ⟨[], .nil, .nil⟩
  | [], _ :: _, h, _ => by simp at h
  | _ :: _, [], h, _ => by simp at h
  | v :: vs, k :: ks, h, hv => by
    obtain ⟨b, k', e1, e2, e3⟩ := hv 0 v rfl
    have e2 : k = k' := by simpa using e2
    subst e2
    obtain ⟨ys, h1, h2⟩ := mk_ys vs ks (by simpa using h) fun j u hu => by
      have := hv (j + 1) u (by simpa using hu)
      simpa using this
    exact ⟨.ref b :: ys, .cons e1 h1, .cons ⟨b, rfl, e3⟩ h2⟩
section
variable {X : Cx}
theorem call_sortedD (gd : Gd X) : CallR X (.builtin "sorted") rSortedD := by
  intro pins s σ H xs us Q I r h
  obtain ⟨p, kvs, ks, rfl, hp, hk, ne, h64, q⟩ := h
  obtain ⟨u, rfl, ru⟩ := vals1 r
  cases ru
  obtain ⟨lo, lz, es, ep, raw, esz, ent⟩ := raw_of I hp
  have lk : kvs.length = ks.length := by
    have := congrArg List.length hk
    simpa using this
  obtain ⟨m, F⟩ := I.fr
  have N : News X.base X.env.locals s.heap (allNews X.base s.heap X.env.locals) := news_all
  have hh : X.A.handled = none := I.ok.hd gd.calm
  refine kdu_sorted (raw_src (es := es) (ep := ep) lo) hh F N raw (by rw [esz]; exact lz) fun D h' tk vs F' N' above lvs hvs => ?_
  -- the keys are tracked tuples
  have vk : ∀ (j : Nat) (v : Value), vs[j]? = some v → ∃ b k, v = .ref b ∧ ks[j]? = some k ∧ H b = some (.tup (k.map V.int)) := fun j v ev => by
    obtain ⟨en, e1, rfl⟩ := hvs j v ev
    obtain ⟨k, w, b, e2, e3, e4⟩ := ent j en e1
    have e5 : (kvs.map (·.1))[j]? = some k := by rw [List.getElem?_map, e2]; rfl
    rw [hk, List.getElem?_map] at e5
    cases e6 : ks[j]? with
    | none => rw [e6] at e5; cases e5
    | some k' =>
      rw [e6] at e5
      have e7 : k'.map Sum.inl = k := by simpa using e5
      refine ⟨b, k', e3, rfl, ?_⟩
      rw [e4, ← e7]
      simp [kV, Function.comp_def]
  obtain ⟨ys, rv, pk⟩ := mk_ys vs ks (by rw [lvs, esz, lk]) vk
  have nD : s.heap.get? D = none := by
    cases e : s.heap.get? D with
    | none => rfl
    | some o =>
      have hn := N' (D, listOf vs.toArray 0) List.mem_cons_self
      exact absurd (above (D, o) (mem_allNews hn.2.1 hn.2.2 e)) (Nat.lt_irrefl _)
  have nH : H D = none := by
    cases z : H D with
    | none => rfl
    | some u => obtain ⟨ob, e⟩ := objOk_there (I.hok D u z); rw [nD] at e; cases e
  by_cases h2 : vs.length < 2
  · have hD := (N' (D, listOf vs.toArray 0) List.mem_cons_self)
    have hs : Paired (TupAt H) ys (sortK ks) := by
      have lks : ks.length < 2 := by rw [← lk, ← esz, ← lvs]; exact h2
      have : sortK ks = ks := by
        match ks, lks with
        | [], _ => rfl
        | [_], _ => rfl
      rw [this]; exact pk
    refine wpAny_call_entry slot_list_sort ⟨_, hD.1, rfl⟩ entry_list_sort (list_sort_short hD.1 h2 ?_) (args_list_sort _)
    refine ⟨_, rfl, ?_⟩
    obtain ⟨e, hat⟩ := sortedHeap_at (out := vs.toArray) hD.1
    have old : ∀ b o, b ≠ D → h'.get? b = some o → (sortedHeap h' D vs vs.toArray).get? b = some o := fun b o hb q => by
      rw [sortedHeap_old hb (Heap.lt_size q)]; exact q
    have keepL : ∀ b o, b ≠ X.env.locals → s.heap.get? b = some o → (sortedHeap h' D vs vs.toArray).get? b = some o := fun b o hb e => by
      have neD : b ≠ D := fun z => by rw [z, nD] at e; cases e
      refine old b o neD ?_
      cases g : X.base.get? b with
      | some o' => have := I.bk b o' g; rw [e] at this; cases this; exact F'.keep b _ g
      | none => exact (N' (b, o) (List.mem_cons_of_mem _ (mem_allNews hb g e))).1
    have F2 : Fr X.base X.env.locals (sortedHeap h' D vs vs.toArray) m := by
      obtain ⟨oL, a1, a2, hoL, a3⟩ := F'.ns
      refine ⟨⟨oL, a1, a2, old _ _ (Ne.symm hD.2.1) hoL, a3⟩, fun b x e => old b x (fun z => ?_) (F'.keep b x e), F'.above⟩
      rw [z, hD.2.2] at e; cases e
    exact ⟨.ref D, _, ledgerLaid (s' := { s with heap := sortedHeap h' D vs vs.toArray, toks := tk }) (o := .lst ys) I F F2 keepL nD ⟨by rw [rv.length, sizeLine_eq]; omega, vs, e, rv, hat⟩ rfl I.bare, rfl, q D ys nH hs⟩
  · refine kat_lsort (s := { s with heap := h', toks := tk }) F' N' (UpdF.head fun p hp => Nat.ne_of_lt (above p hp)) rfl (by simpa using Nat.not_lt.mp h2) (by simp; rw [lvs, esz, lk]; exact h64) fun e1 h'' F'' N'' => ?_
    exact sort_core (s := s) (tk0 := tk) I F pk rv ne (by simpa using Nat.not_lt.mp h2) (by simp; rw [lvs, esz, lk]; exact h64) F'' N'' above fun outs hD _ po => q D outs hD po
end
noncomputable def fSortD : D → Option D
  | .dic kvs => if (kvs.all fun kv => !kv.1.isEmpty) = true ∧ kvs.length < 64 then some (.lst ((sortK (kvs.map (·.1))).map kT)) else none
  | _ => none
section
variable {K : PySem.W.Frag} {H : Hp} {O : Addr → Prop}
theorem Rpk.keys : ∀ {kvs : List (List Int × D)} {ws : List (List Key × V)}, Rpk K H O kvs ws → ws.map (·.1) = (kvs.map (·.1)).map fun k => k.map Sum.inl
  | [], _, h => by unfold Rpk at h; subst h; rfl
  | (k, d) :: r, _, h => by
    unfold Rpk at h
    obtain ⟨v, r', rfl, _, h2⟩ := h
    simp [Rpk.keys h2]
theorem cn_sortD : CallN K rSortedD fSortD := fun H O dx d v Q fr e rx q => by
  cases dx with
  | dic kvs =>
    simp only [fSortD] at e
    split at e
    · rename_i hl
      cases e
      obtain ⟨a, ws, rfl, h1, r1⟩ := rx.dic
      refine ⟨a, ws, kvs.map (·.1), rfl, h1, r1.keys, fun k hk => ?_, by simpa using hl.2, fun l outs hl po => q l _ (same_upd hl) hl ⟨_, upd_same, ?_⟩⟩
      · obtain ⟨kv, hkv, rfl⟩ := List.mem_map.mp hk
        have := List.all_eq_true.mp hl.1 kv hkv
        intro z
        rw [z] at this
        simp at this
      · refine ((tups_back (K := K) (O := O) po fun u hu a ha => ?_).fresh hl).mono (same_upd hl) fun _ z => z
        subst ha
        obtain ⟨i, hi, e⟩ := List.mem_iff_getElem.mp hu
        obtain ⟨k, _, b, e2, e3⟩ := paired_get po i (V.ref a) (by rw [List.getElem?_eq_getElem hi, e])
        cases e2
        exact fr.tup e3
    · cases e
  | _ => cases e
end
section
variable {X : Cx} {G : Fc} {p pos : Pos} {e : Expr} {m : EV}
theorem sn_sortd (gd : Gd X) (hg : Gl X "sorted") (hm : X.mg "sorted" = none) (he : SE X G e m) (hs : starEach [e] X.env = (false, eval e X.env) :: starEach [] X.env := by rfl) (hpl : (backTo pos (starEach [] X.env)).any (·.1) = false := by rfl) : SN X G (.Call (.Name "sorted" p) [e] [] pos) (e1 fSortD m) :=
  sn_callB (call_sortedD gd) cn_sortD hg hm (by decide +kernel) he (hs := hs) (hpl := hpl)
end
end M

set_option Elab.async false
set_option linter.all false
set_option maxRecDepth 100000
namespace M
open PySem PySem.Spec PyProof.Rows L2
noncomputable def xRetO (i : Nat) : EX := fun E => match E[i]? with
  | some (.ow d) => .ok (.rt d)
  | _ => .no
section
variable {X : Cx} {G : Fc} {st : Stmt} {rest : List Stmt} {m n : EX} {e : Expr} {me : EV} {pos : Pos}
noncomputable def spN (K : PySem.W.Frag) (n : Nat) (den : List D → R D) : Sp := fun vs H Q _ => vs.length = n ∧ ∃ (pr : Addr → Prop) (ds : List D), (∀ a, pr a → ∃ o, H a = some o ∧ NoTup o) ∧ Rps K H pr ds vs ∧ Fin (den ds) (fun d => ∀ a H', Same H H' → H a = none → Own K H' (fun b => pr b ∨ b = a) d a → Q (.ref a) H') fun _ => False
structure CalN (P : Program) (w : World) (K : PySem.W.Frag) (mg : Str → Option Value) (base : Heap) (x : Str) (ps : List Str) (k : Nat) (dn : List D → R D) : Prop where
  ex : ∃ (f : Addr) (fd : FuncData), mg x = some (.ref f) ∧ PySem.W.keepIn K (.ref f) = true ∧ Binds K fd ps [] ∧ FnOk P w K mg base CX0 k f fd ps (spN K ps.length dn)
end
section
variable {P : Program} {w : World} {K : PySem.W.Frag} {mg : Str → Option Value} {base : Heap} {x qual : Str} {st : Stmt} {f : Addr} {fd : FuncData} {N ps : List Str} {k : Nat} {m : EX}
end
section
variable {X : Cx} {G : Fc} {k j : Nat} {ps : List Str} {dn : List D → R D} {x : Str} {p pos : Pos} {e : Expr} {es : List Expr} {ma : Ev → R (List D)}
end
end M

set_option Elab.async false
set_option linter.all false
set_option maxRecDepth 100000
namespace M
open PySem PySem.W PySem.Spec PyProof.Rows L2
section
variable {X : Cx} {G : Fc} {tg iter : Expr}
end
end M

set_option Elab.async false
set_option linter.all false
set_option maxRecDepth 100000
namespace M
open PySem PySem.W PySem.Spec PyProof.Rows L2
section
variable {prog : Program} {w : World} {A : Around} {E : Value → Shared → Prop} {s : Shared} {d it v : Addr} {es : Array DictEntry} {ep : Nat}
end
end M

set_option Elab.async false
set_option linter.all false
set_option maxRecDepth 100000
namespace M
open PySem PySem.W PySem.Spec PyProof.Rows L2
section
variable {X : Cx} {G : Fc} {o tg : Expr} {apos cpos tpos : Pos} {elts : List Expr} {tk : Nat} {tl : TE}
end
end M

set_option Elab.async false
set_option linter.all false
set_option maxRecDepth 100000
namespace M
open PySem PySem.W PySem.Spec PyProof.Rows L2
section
variable {X : Cx} {G : Fc} {o k z : Expr} {mo mk mz : EV} {apos cpos : Pos}
end
end M

set_option Elab.async false
set_option linter.all false
set_option maxRecDepth 100000
namespace M
open PySem PySem.W PySem.Spec PyProof.Rows L2
noncomputable def small : List (List Int) := (List.range 9).flatMap fun a => (List.range 9).map fun b => [Int.ofNat a, Int.ofNat b]
noncomputable def hsh (k : List Int) : Int := reduceHash (Builtin.Tuple.tupleHashOf (k.map hashInt))
section
variable {prog : Program} {w : World} {A : Around} {E : Value → Shared → Prop} {s : Shared} {d : Addr} {o : Obj} {es : Array DictEntry} {ep : Nat}
end

section
variable {X : Cx}
end

noncomputable def fDcopy : D → Option D
  | .dic kvs => if (kvs.all fun kv => decide (kv.1 ∈ small)) = true then some (.dic kvs) else none
  | _ => none
section
variable {X : Cx} {G : Fc} {p pos : Pos} {e : Expr} {m : EV}
end
end M

set_option Elab.async false
set_option linter.all false
set_option maxRecDepth 100000
namespace M
open PySem PySem.Spec PyProof.Rows L2
theorem len1 {α : Type} : ∀ {us : List α}, us.length = 1 → ∃ a, us = [a]
  | [a], _ => ⟨a, rfl⟩
theorem len2 {α : Type} {us : List α} (h : us.length = 2) : ∃ a b, us = [a, b] := by
  cases us with
  | nil => cases h
  | cons a us => obtain ⟨b, e⟩ := len1 (Nat.succ.inj h); exact ⟨a, b, by rw [e]⟩
theorem len3 {α : Type} {us : List α} (h : us.length = 3) : ∃ a b c, us = [a, b, c] := by
  cases us with
  | nil => cases h
  | cons a us => obtain ⟨b, c, e⟩ := len2 (Nat.succ.inj h); exact ⟨a, b, c, by rw [e]⟩
noncomputable def flatsB : List D → Bool
  | [] => true
  | d :: r => flatB d && flatsB r
noncomputable def rowB : D → Bool
  | .tup ds => flatsB ds
  | d => flatB d
noncomputable def rowsB : List D → Bool
  | [] => true
  | d :: r => rowB d && rowsB r
noncomputable def rows2 : D → R D
  | .lst ds => if rowsB ds = true then .ok (.lst ds) else .no
  | _ => .no
noncomputable def eLooseN (i : Nat) (m : EV) : EV := fun E => match E[i]? with
  | some (.ow (.lst _)) => m (frz i E) >>= rows2
  | _ => .no
section
variable {K : PySem.W.Frag} {H : Hp} {O : Addr → Prop} {a : Addr} {us : List V}
end
section
variable {X : Cx} {G : Fc} {e : Expr} {m : EV}
end
end M

set_option Elab.async false
set_option linter.all false
set_option maxRecDepth 100000
namespace M
open PySem PySem.Spec PyProof.Rows L2
noncomputable def orA (pr : Addr → Prop) (a : Addr) : Addr → Prop := fun b => pr b ∨ b = a
noncomputable def xRetP (i : Nat) (m : EV) : EX := fun E => match E[i]? with
  | some (.ow (.dic c)) => m E >>= fun d => .ok (.rt (.tup [d, .dic c]))
  | _ => .no
section
variable {X : Cx} {G : Fc} {i : Nat} {a : Addr} {st : Stmt} {rest : List Stmt} {m n : EX} {e : Expr} {me : EV} {pos : Pos}
end
section
variable {X : Cx} {G : Fc} {i : Nat} {a : Addr} {elt iter tg : Expr} {ifs : List Expr} {body : List Stmt} {scope : Scope} {pos : Pos} {ts : List Nat} {set : D → Ev → Option Ev} {mi : Ev → R (List D)} {mt : Ev → R Bool} {me : EV} {mb : EX}
end
open Classical in
noncomputable def offA (H : Hp) (a : Addr) : Hp := fun b => if b = a then none else H b
noncomputable abbrev Kvs := List (List Int × D)
noncomputable def spM (K : PySem.W.Frag) (n : Nat) (dn : List D → Kvs → R (D × Kvs)) : Sp := fun vs H Q _ => vs.length = n ∧ ∃ (pr : Addr → Prop) (ds : List D) (us : List V) (a : Addr) (c : Kvs), vs = us ++ [.ref a] ∧ ds.length + 1 = n ∧ ¬ pr a ∧ (∀ b, pr b → ∃ o, H b = some o ∧ NoTup o) ∧
  Rps K H (orA pr a) ds us ∧ Own K H (orA pr a) (.dic c) a ∧ Fin (dn ds c) (fun p => ∀ v H', Same (offA H a) H' → Rp K H' (orA pr a) p.1 v → Own K H' (orA pr a) (.dic p.2) a → Q v H') fun _ => False
structure CalM (P : Program) (w : World) (K : PySem.W.Frag) (mg : Str → Option Value) (base : Heap) (x : Str) (ps : List Str) (k : Nat) (dn : List D → Kvs → R (D × Kvs)) : Prop where
  ex : ∃ (f : Addr) (fd : FuncData), mg x = some (.ref f) ∧ PySem.W.keepIn K (.ref f) = true ∧ Binds K fd ps [] ∧ FnOk P w K mg base CX0 k f fd ps (spM K ps.length dn)
section
variable {P : Program} {w : World} {K : PySem.W.Frag} {mg : Str → Option Value} {base : Heap} {x qual : Str} {st : Stmt} {f : Addr} {fd : FuncData} {N ps : List Str} {k i : Nat} {m : EX}
end
section
variable {X : Cx} {G : Fc} {e : Expr} {es : List Expr} {me : EV} {ma : Ev → R (List D)} {j : Nat}
noncomputable def xIfM (j n : Nat) (dn : List D → Kvs → R (D × Kvs)) (ma : Ev → R (List D)) (mo : EV) (ta tb : EX) : EX := fun E => match E[j]? with
  | some (.ow (.dic c)) => ma E >>= fun ds => if ds.length + 1 = n then dn ds c >>= fun p => mo (E.set j (.ow (.dic p.2))) >>= fun y => ofO (fNe p.1 y) >>= fun z => match z with
    | .bl true => ta (E.set j (.ow (.dic p.2)))
    | .bl false => tb (E.set j (.ow (.dic p.2)))
    | _ => .no
    else .no
  | _ => .no
end
end M

set_option Elab.async false
set_option linter.all false
set_option maxRecDepth 100000
namespace M
open PySem PySem.Spec PyProof.Rows L2
noncomputable def xRetT (m : EV) (j : Nat) : EX := fun E => match E[j]? with
  | some (.ow y) => m E >>= fun d => .ok (.rt (.tup [d, y]))
  | _ => .no
section
variable {X : Cx} {G : Fc} {st : Stmt} {rest : List Stmt} {m n : EX} {e : Expr} {me : EV} {pos tpos : Pos}
end
noncomputable def spT (K : PySem.W.Frag) (n : Nat) (den : List D → R D) : Sp := fun vs H Q _ => vs.length = n ∧ ∃ (pr : Addr → Prop) (ds : List D), (∀ a, pr a → ∃ o, H a = some o ∧ NoTup o) ∧ Rps K H pr ds vs ∧ Fin (den ds) (fun d => ∀ t a v H' x y, d = .tup [x, y] → Same H H' → H a = none → H' t = some (.tup [v, .ref a]) → Own K H' (orA pr a) y a → Q (.ref t) H') fun _ => False
structure CalT (P : Program) (w : World) (K : PySem.W.Frag) (mg : Str → Option Value) (base : Heap) (x : Str) (ps : List Str) (k : Nat) (dn : List D → R D) : Prop where
  ex : ∃ (f : Addr) (fd : FuncData), mg x = some (.ref f) ∧ PySem.W.keepIn K (.ref f) = true ∧ Binds K fd ps [] ∧ FnOk P w K mg base CX0 k f fd ps (spT K ps.length dn)
section
variable {P : Program} {w : World} {K : PySem.W.Frag} {mg : Str → Option Value} {base : Heap} {x qual : Str} {st : Stmt} {f : Addr} {fd : FuncData} {N ps : List Str} {k : Nat} {m : EX}
end
section
variable {X : Cx} {G : Fc} {k j : Nat} {ps : List Str} {dn : List D → R D} {x : Str} {p pos : Pos} {e : Expr} {es : List Expr} {ma : Ev → R (List D)}
end
end M

set_option Elab.async false
set_option linter.all false
set_option maxRecDepth 100000
namespace M
open PySem PySem.Spec PyProof.Rows L2
structure Loose (G : Fc) (E : Ev) (σ : St) (H H' : Hp) (js : List Nat) (n : Nat) (as : List Addr) : Prop where
  len : as.length = n
  nd : as.Nodup
  lst : ∀ a ∈ as, ∃ vs, H' a = some (.lst vs) ∧ vs.length < 999000
  h0 : ∀ a ∈ as, G.h0 a = none
  out : ∀ a ∈ as, H a = none ∨ ∃ j ∈ js, ∃ d, E[j]? = some (.ow d) ∧ σ[j]? = some (some (.ref a))
noncomputable def oOwn (j : Nat) (m : Ev → R (List D)) : Ev → R (List D) := fun E => match E[j]? with
  | some (.ow (.lst ds)) => if ds.length < 999000 then m E else .no
  | _ => .no
section
variable {X : Cx} {G : Fc} {e : Expr} {es : List Expr} {me : EV} {mo : Ev → R (List D)} {js : List Nat} {j : Nat}
end
end M

set_option Elab.async false
set_option linter.all false
set_option maxRecDepth 100000
namespace M
open PySem PySem.W PySem.Spec PyProof.Rows L2 PySem.Calls
structure XCls (K : PySem.W.Frag) (C : Addr) : Prop where
  ga : findIn K (.ref C) "__getattribute__" = some (some (.builtin "BaseException.__getattribute__"))
  gn : findIn K (.ref C) "__getattr__" = some none
  cl : findIn K (.ref C) "__class__" = some (some (.builtin "object.__class__"))
  be : mroIn K C (.type "BaseException") = some true
  ob : mroIn K C (.type "object") = some true
section
variable {prog : Program} {w : World} {A : Around} {E : Value → Shared → Prop} {h : Heap} {g : Array GenState} {d : Drawn} {t : Nat} {os : OsState} {a C : Addr} {o : Obj} {vs : Array Value} {K : PySem.W.Frag}
end
end M

set_option Elab.async false
set_option linter.all false
set_option maxRecDepth 100000
namespace M
open PySem PySem.W PySem.Spec PyProof.Rows L2 PySem.Calls
structure Fly (P : Program) (w : World) (l : List Env) (H : Hp) (s : Shared) (C e : Addr) (H' : Hp) (s' : Shared) : Prop where
  os : s'.os = s.os
  bare : AllBare s'.gens
  un : Un (frs l) [] H H' s.heap s'.heap
  hok : HOk P w H' s'.heap
  same : Same H H'
  fr : H' e = none
  fl : ∃ B t, Heap.FlyingW B l e (.ref C) (.ref t) s'.heap ∧ (∀ b o, s.heap.get? b = some o → H b = none → b ∉ frs l → B.get? b = some o) ∧ ∀ b u o, H' b = some u → s'.heap.get? b = some o → B.get? b = some o
section
variable {X : Cx} {pins : List (Addr × Obj)} {σ : L2.St} {H H' : Hp} {s s' : Shared} {B h' : Heap} {C e : Addr}
end
end M

set_option Elab.async false
set_option linter.all false
set_option maxRecDepth 100000
namespace M
open PySem PySem.W PySem.Spec PyProof.Rows L2 PySem.Calls
noncomputable def cname : Nat → Str
  | 0 => "NoFloor"
  | 1 => "NoLaying"
  | 2 => "NotPlain"
  | 3 => "NoTurn"
  | 4 => "NoNumber"
  | _ => "NoNote"
structure Link (X : Cx) (G : Fc) : Prop where
  made : ∀ {pins : List (Addr × Obj)} {σ : L2.St} {H : Hp} {s : Shared} {h' : Heap} {e C : Addr} {c : Nat} {args : List Value}, Inv X pins σ H s → Same G.h0 H → X.mg (cname c) = some (.ref C) → G.xc c → Heap.MadeExcOf s.heap h' e (.ref C) args → X.xe (.ref e) { s with heap := h' }
  flew : ∀ {pins : List (Addr × Obj)} {σ : L2.St} {H : Hp} {s : Shared} {H' : Hp} {s' : Shared} {e C : Addr} {c : Nat}, Inv X pins σ H s → Same G.h0 H → X.mg (cname c) = some (.ref C) → G.xc c → Fly X.prog X.w X.stack H s C e H' s' → X.xe (.ref e) s'
noncomputable def CXE (P : Program) (w : World) : CXT := fun outer H s E e s' => ∃ a C H', e = .ref a ∧ Fly P w outer H s C a H' s' ∧ E e (some C) H'
noncomputable def spE (K : PySem.W.Frag) (mg : Str → Option Value) (n : Nat) (den : List D → R D) : Sp := fun vs H Q E => vs.length = n ∧ ∃ (pr : Addr → Prop) (ds : List D), (∀ a, pr a → ∃ o, H a = some o ∧ NoTup o) ∧ Rps K H pr ds vs ∧ Fin (den ds) (fun d => ∀ v H', Same H H' → Rp K H' pr d v → Q v H') fun c => ∀ e C H', mg (cname c) = some (.ref C) → Same H H' → E e (some C) H'
structure CalE (P : Program) (w : World) (K : PySem.W.Frag) (mg : Str → Option Value) (base : Heap) (x : Str) (ps : List Str) (k : Nat) (dn : List D → R D) : Prop where
  ex : ∃ (f : Addr) (fd : FuncData), mg x = some (.ref f) ∧ PySem.W.keepIn K (.ref f) = true ∧ Binds K fd ps [] ∧ FnOk P w K mg base (CXE P w) k f fd ps (spE K mg ps.length dn)
section
variable {P : Program} {w : World} {K : PySem.W.Frag} {mg : Str → Option Value} {base : Heap} {x qual : Str} {st : Stmt} {f : Addr} {fd : FuncData} {N ps : List Str} {k : Nat} {m : EX}
end
noncomputable def calm {α : Type} (m : Ev → R α) : Ev → R α := fun E => match m E with
  | .ok a => .ok a
  | _ => .no
@[simp] theorem calm_ok {α : Type} {m : Ev → R α} {E : Ev} {a : α} (h : m E = .ok a) : calm m E = .ok a := by unfold calm; rw [h]
noncomputable def Fc.calm (G : Fc) : Fc := { G with xc := fun _ => False }
section
variable {X : Cx} {G : Fc}
end
section
variable {X : Cx} {G : Fc} {k : Nat} {f : Addr} {fd : FuncData} {ps : List Str} {dn : List D → R D} {x : Str} {p pos : Pos} {e : Expr} {es : List Expr} {ma : Ev → R (List D)} {sp : Sp} {CX : CXT}
end
end M

set_option Elab.async false
set_option linter.all false
set_option maxRecDepth 100000
namespace M
open PySem PySem.W PySem.Spec PyProof.Rows L2 PySem.Calls
section
variable {X : Cx} {G : Fc}
end
structure XTop (K : PySem.W.Frag) (D : Addr) : Prop extends XCls K D where
  ty : typeIn K (.ref D) = some (.type "type")
end M

set_option Elab.async false
set_option linter.all false
set_option maxRecDepth 100000
namespace M
open PySem PySem.W PySem.Spec PyProof.Rows L2 PySem.Calls
noncomputable def HT (X : Cx) (a : Addr) (i : Nat) (e : Expr) (b : Bool) : Prop := PT X e fun σ H Q => σ[i]? = some (some (.ref a)) ∧ Q b H
noncomputable def HS (X : Cx) (a : Addr) (i : Nat) (sts : List Stmt) (v : V) : Prop := PSs X sts fun D σ H => σ[i]? = some (some (.ref a)) ∧ D.rt v H
section
variable {X : Cx} {a C : Addr} {i : Nat} {e e' : Expr} {v : V} {b b' : Bool} {p p2 p3 pos : Pos} {n y : Str} {sts rest : List Stmt}
end
end M

set_option Elab.async false
set_option linter.all false
set_option maxRecDepth 100000
namespace M
open PySem PySem.W PySem.Spec PyProof.Rows L2 PySem.Calls
section
variable {X : Cx} {pins : List (Addr × Obj)} {σ : L2.St} {H H' : Hp} {s s' : Shared} {B h' : Heap} {C e : Addr} {o : Obj}
noncomputable abbrev hcx (X : Cx) (e : Addr) (o : Obj) : Cx := { X with A := X.A.mark (some (.ref e)), calm := false, pn := (e, o) :: X.pn, xe := fun _ _ => False }
end
section
variable {X : Cx} {G : Fc} {k j : Nat} {ps : List Str} {dn : List D → R D} {x : Str} {p pos pos' : Pos} {e : Expr} {es : List Expr} {ma : Ev → R (List D)}
end
end M

set_option Elab.async false
set_option linter.all false
set_option maxRecDepth 100000
namespace M
open PySem PySem.W PySem.Spec PyProof.Rows L2 PySem.Calls
structure Took (X : Cx) (i : Nat) (D : Addr) (sts : List Stmt) (hd : Nat → Option M.D) : Prop where
  at_ : ∀ c d C e o vs, hd c = some d → X.mg (cname c) = some (.ref C) → o.cls = .ref C → o.data = .fields vs → mroIn X.K C (.ref D) = some true ∧ ∃ v, HS (hcx X e o) e i sts v ∧ ∀ K H O, Rp K H O d v
section
variable {X : Cx} {G : Fc}
end
end M

set_option Elab.async false
set_option linter.all false
set_option maxRecDepth 100000
namespace M
open PySem PySem.W PySem.Spec PyProof.Rows L2 PySem.Calls
noncomputable def hush (dn : List D → R D) : List D → R D := fun ds => match dn ds with
  | .ok d => .ok d
  | _ => .no
end M

set_option Elab.async false
set_option linter.all false
set_option maxRecDepth 100000
namespace M
open PySem PySem.W PySem.Spec PyProof.Rows L2 PySem.Calls
theorem vals_ints : ∀ {ns : List Int} {its : List Value}, Vals (ns.map V.int) its → ∃ xs : List (Int × Tok), its = xs.map (fun p => .int p.1 p.2) ∧ xs.map (·.1) = ns
  | [], its, h => by cases h; exact ⟨[], rfl, rfl⟩
  | n :: ns, its, h => by
    cases h with
    | cons a b =>
      obtain ⟨t, rfl⟩ := a
      obtain ⟨xs, rfl, rfl⟩ := vals_ints b
      exact ⟨(n, t) :: xs, rfl, rfl⟩
noncomputable def nums : List D → Option (List Int)
  | [] => some []
  | .int b :: r => (nums r).map (b :: ·)
  | _ :: _ => none
theorem nums_some : ∀ {ds : List D} {bs : List Int}, nums ds = some bs → ds = bs.map D.int
  | [], bs, h => by simp [nums] at h; subst h; rfl
  | .int i :: r, ns, h => by
    simp only [nums, Option.map_eq_some_iff] at h
    obtain ⟨ms, h1, rfl⟩ := h
    rw [nums_some h1]; rfl
  | .non :: r, ns, h => by simp [nums] at h
  | .bl _ :: r, ns, h => by simp [nums] at h
  | .str _ :: r, ns, h => by simp [nums] at h
  | .tup _ :: r, ns, h => by simp [nums] at h
  | .lst _ :: r, ns, h => by simp [nums] at h
  | .dic _ :: r, ns, h => by simp [nums] at h
  | .scr _ :: r, ns, h => by simp [nums] at h
@[simp] theorem nums_map : ∀ bs : List Int, nums (bs.map D.int) = some bs
  | [] => rfl
  | n :: ns => by simp [nums, nums_map ns]
theorem Rps.nums {K : PySem.W.Frag} {H : Hp} {O : Addr → Prop} : ∀ {ns : List Int} {vs : List V}, Rps K H O (ns.map D.int) vs → vs = ns.map V.int
  | [], vs, h => by unfold Rps at h; exact h
  | n :: ns, vs, h => by
    unfold Rps at h
    obtain ⟨v, r, rfl, p, q⟩ := h
    unfold Rp at p
    rw [p, Rps.nums q]; rfl
noncomputable def fSum : D → Option D
  | .lst ds => (nums ds).map fun bs => .int bs.sum
  | _ => none
noncomputable def fShl : D → D → Option D
  | .int i, .int j => if 0 ≤ j ∧ j ≤ 1000 ∧ i.natAbs < 2 ^ 63 then some (.int (i * 2 ^ j.toNat)) else none
  | _, _ => none
section
variable {X : Cx} {G : Fc} {e a b : Expr} {m ma mb : EV} {p pos : Pos}
end
end M

set_option Elab.async false
set_option linter.all false
set_option maxRecDepth 100000
namespace M
open PySem PySem.W PySem.Spec PyProof.Rows L2 PySem.Calls
noncomputable def spanI (b w : Int) : Int := Builtin.bitAnd b (-b) * (if w = 0 then 3 else 513)
noncomputable def okI (b w : Int) : Bool := decide (Builtin.bitAnd b (spanI b w) = spanI b w)
noncomputable def WF : Nat → Int → Int
  | 0, _ => 1
  | n + 1, b => if b = 0 then 1 else (if okI b 0 = true then WF n (b - spanI b 0) else 0) + (if okI b 1 = true then WF n (b - spanI b 1) else 0)
noncomputable def Dp : Nat → Int → Prop
  | 0, b => b = 0
  | n + 1, b => b = 0 ∨ ∀ w : Int, (w = 0 ∨ w = 1) → okI b w = true → Dp n (b - spanI b w)
noncomputable def WM (b : Int) : Int := WF 40 b
noncomputable def wayI (b w : Int) : Int := if okI b w = true then WM (b - spanI b w) else 0
noncomputable def Good (kvs : List (Key × V)) : Prop := ∀ p ∈ kvs, ∃ j : Int, p.1 = .inl j ∧ p.2 = .int (WM j)
noncomputable def spO (n : Nat) : Sp := fun vs H Q _ => ∃ b k kvs, vs = [.int b, .ref k] ∧ H k = some (.dK kvs) ∧ Good kvs ∧ Dp n b ∧ n ≤ 20 ∧ kvs.length + 2 ^ n ≤ 2 ^ 21 ∧ ∀ kvs', Good kvs' → kvs'.length + 1 ≤ kvs.length + 2 ^ n → Q (.int (WM b)) (upd H k (.dK kvs'))
noncomputable def dpB : Nat → Int → Bool
  | 0, b => decide (b = 0)
  | n + 1, b => decide (b = 0) || ((!(okI b 0) || dpB n (b - spanI b 0)) && (!(okI b 1) || dpB n (b - spanI b 1)))
structure CalW (P : Program) (w : World) (K : PySem.W.Frag) (mg : Str → Option Value) (base : Heap) (k n : Nat) : Prop where
  ex : ∃ (f : Addr) (fd : FuncData), mg "ways_over" = some (.ref f) ∧ PySem.W.keepIn K (.ref f) = true ∧ Binds K fd ["bare", "known"] [] ∧ FnOk P w K mg base CX0 k f fd ["bare", "known"] (spO n)
section
variable {X : Cx} {G : Fc} {e : Expr} {m : EV} {p pos dp : Pos} {j k n : Nat}
end
end M

set_option Elab.async false
set_option linter.all false
set_option maxRecDepth 100000
namespace M
open PySem PySem.W PySem.Spec PyProof.Rows L2 PySem.Calls
end M

set_option Elab.async false
set_option linter.all false
set_option maxRecDepth 100000
namespace M
open PySem PySem.W PySem.Spec PyProof.Rows L2 PySem.Calls
noncomputable def fsq (b : Int) : Int × Int := (((Builtin.Int.intBits (Builtin.bitAnd b (-b)) : Int) - 1) / 9, ((Builtin.Int.intBits (Builtin.bitAnd b (-b)) : Int) - 1) % 9)
noncomputable def toldL : Nat → Int → Int → Int → List D
  | 0, _, _, _ => []
  | k + 1, b, n, a => if b = 0 then [] else if n < a + wayI b 0 then .tup [.int (fsq b).1, .int (fsq b).2, .int 0] :: toldL k (b - spanI b 0) n a
    else .tup [.int (fsq b).1, .int (fsq b).2, .int 1] :: toldL k (b - spanI b 1) n (a + wayI b 0)
noncomputable def dTold (cf bo : List D → R D) : List D → R D := fun ds => match ds with
  | [f, .int n] => hush cf [f] >>= fun _ => hush bo [f] >>= fun d => match d with
    | .int b => if dpB 12 b = true then (if 0 ≤ n ∧ n < WM b then .ok (.lst (toldL 12 b n 0)) else .er 4) else .no
    | _ => .no
  | _ => .no
section
variable {X : Cx}
end
end M

set_option Elab.async false
set_option linter.all false
set_option maxRecDepth 100000
set_option maxHeartbeats 4000000
namespace HT
open PySem PyProof.Rows
section
open PySem.SeqAt
open PySem.AutoSeq1 (wpAny_loadPart')
open PySem.MeetsSeq PySem.MeetsSeq2 PySem.MeetsSeq3
noncomputable def ltFrom (n n2 : Nat) (e lt : Nat → Bool) : Nat → Nat → Bool
  | 0, _ => decide (n < n2)
  | k + 1, i => if i < n2 then (if e i = true then ltFrom n n2 e lt k (i + 1) else lt i) else decide (n < n2)
noncomputable def RcLtAt (A : Around) (s : Shared) (y x : Value) (b : Bool) : Prop :=
  ∀ (prog : Program) (w : World) (E : Value → Shared → Prop) (Q : Value → Shared → Prop), Q (.bool b) s → wpAny (model prog w) A (richCompare .Lt y x) Q E s
theorem lt_loopAt (l b : Addr) (items items2 : Array Value) (n n2 : Nat) (dd dd2 : Option Addr) (sl sl2 : Array (Option Value)) (e lt : Nat → Bool) (k : Nat) :
    ∀ i : Nat, items.size - i = k → Meets (Builtin.«list.__eq__.loop» ⟨[.ref l, .ref b, rawInt i, rawInt 0], []⟩)
      (fun A R s => s.heap.get? l = some { cls := .type "list", dict := dd, data := .seq items n, slots := sl } ∧ s.heap.get? b = some { cls := .type "list", dict := dd2, data := .seq items2 n2, slots := sl2 } ∧
        (∀ j (h1 : j < items.size) (h2 : j < items2.size), EqAt A.in1 s items[j] items2[j] (e j)) ∧ (∀ j (h1 : j < items.size) (h2 : j < items2.size), RcLtAt A.in1 s items[j] items2[j] (lt j)) ∧
        R (.ok (.ret (.bool (ltFrom items.size items2.size e lt k i)))) s) := by
  induction k with
  | zero =>
    intro i hk prog w A R s h
    obtain ⟨hp, g, d, tk, os⟩ := s; obtain ⟨hl, hb, he, hq, h⟩ := h
    wp_walk using wpAny_loadPart' hl, wpAny_loadPart' hb
    have hi1 : items[((i : Nat) : Int).toNat]? = none := by simp; omega
    rw [hi1]
    wp_walk using wpAny_loadPart' hl, wpAny_loadPart' hb
    exact h
  | succ k ih =>
    intro i hk prog w A R s h
    obtain ⟨hp, g, d, tk, os⟩ := s; obtain ⟨hl, hb, he, hq, h⟩ := h
    wp_walk using wpAny_loadPart' hl, wpAny_loadPart' hb
    have hlt : i < items.size := by omega
    have hi1 : items[((i : Nat) : Int).toNat]? = some items[i] := by simp [hlt]
    have hc : ((i : Int) + 1) = ((i + 1 : Nat) : Int) := by push_cast; rfl
    unfold ltFrom at h
    rw [hi1]
    by_cases hlt2 : i < items2.size
    · have hi2 : items2[((i : Nat) : Int).toNat]? = some items2[i] := by simp [hlt2]
      rw [if_pos hlt2] at h
      rw [hi2]
      refine wpAny_bind (he i hlt hlt2 prog w _ _ ?_)
      cases hb' : e i with
      | true =>
        rw [hb', if_pos rfl] at h
        wp_walk
        rw [hc]
        exact ⟨plainId_quiet plain_eq_loop _, codeAny_builtin entry_eq_loop (by
          rw [Around.under_plainId plain_eq_loop _]
          exact ih (i + 1) (by omega) prog w A R _ ⟨hl, hb, he, hq, h⟩)⟩
      | false =>
        rw [hb', if_neg (by simp)] at h
        wp_walk using wpAny_loadPart' hl, wpAny_loadPart' hb
        rw [hi1, hi2]
        refine wpAny_bind (hq i hlt hlt2 prog w _ _ ?_)
        wp_walk
        exact h
    · rw [if_neg hlt2] at h
      have hi2 : items2[((i : Nat) : Int).toNat]? = none := by simp; omega
      rw [hi2]
      wp_walk using wpAny_loadPart' hl, wpAny_loadPart' hb
      exact h
theorem list_ltAt (l b : Addr) (items items2 : Array Value) (n n2 : Nat) (dd dd2 : Option Addr) (sl sl2 : Array (Option Value)) (e lt : Nat → Bool) :
    Meets (Builtin.«list.__lt__» ⟨[.ref l, .ref b], []⟩)
      (fun A R s => s.heap.get? l = some { cls := .type "list", dict := dd, data := .seq items n, slots := sl } ∧ s.heap.get? b = some { cls := .type "list", dict := dd2, data := .seq items2 n2, slots := sl2 } ∧
        (∀ j (h1 : j < items.size) (h2 : j < items2.size), EqAt A.in1 s items[j] items2[j] (e j)) ∧ (∀ j (h1 : j < items.size) (h2 : j < items2.size), RcLtAt A.in1 s items[j] items2[j] (lt j)) ∧
        R (.ok (.ret (.bool (ltFrom items.size items2.size e lt items.size 0)))) s) := by
  intro prog w A R s h
  obtain ⟨hp, g, d, tk, os⟩ := s; obtain ⟨hl, hb, he, hq, h⟩ := h
  have f3 := AutoSeq1.sub_list_list
  wp_walk using wpAny_loadPart' hl, wpAny_loadPart' hb
  exact ⟨plainId_quiet plain_eq_loop _, codeAny_builtin entry_eq_loop (by
    rw [Around.under_plainId plain_eq_loop _]
    exact lt_loopAt l b items items2 n n2 dd dd2 sl sl2 e lt _ 0 rfl prog w A R _ ⟨hl, hb, he, hq, h⟩)⟩
end
section
variable {prog : Program} {w : World} {A : Around} {E : Value → Shared → Prop} {s : Shared}
theorem lt_lists {l b : Addr} {items items2 : Array Value} {e lt : Nat → Bool} {Q : Value → Shared → Prop} (hl : s.heap.IsList l items) (hb : s.heap.IsList b items2) (hu : A.units < cLine)
    (he : ∀ j (h1 : j < items.size) (h2 : j < items2.size), SeqAt.EqAt A.in1 s items[j] items2[j] (e j)) (hq : ∀ j (h1 : j < items.size) (h2 : j < items2.size), RcLtAt A.in1 s items[j] items2[j] (lt j))
    (h : Q (.bool (ltFrom items.size items2.size e lt items.size 0)) s) : wpAny (model prog w) A (compareOp .Lt (.ref l) (.ref b)) Q E s := by
  obtain ⟨⟨cls, dd, data, sl⟩, ho, hc, n, hd⟩ := id hl
  obtain ⟨⟨cls2, dd2, data2, sl2⟩, ho2, hc2, n2, hd2⟩ := id hb
  simp only at hc hd hc2 hd2
  subst hc hd hc2 hd2
  exact richCompare_meets_room (op := .Lt) ⟨_, ho, rfl⟩ ⟨_, ho2, rfl⟩ PySem.F.slot_list_lt PySem.F.entry_list_lt (PySem.F.args_list_lt_2 _ _) (list_ltAt l b items items2 n n2 dd dd2 sl sl2 e lt)
    ⟨ho, ho2, he, hq, show Value.bool (ltFrom items.size items2.size e lt items.size 0) ≠ Value.notImplemented ∧ Q (.bool (ltFrom items.size items2.size e lt items.size 0)) s from ⟨(fun x => nomatch x), h⟩⟩ hu
end
end HT
namespace M
open PySem PySem.W PySem.Spec PyProof.Rows L2 PySem.Calls
noncomputable def lexLL : List (List Int) → List (List Int) → Bool
  | [], [] => false
  | [], _ :: _ => true
  | _ :: _, [] => false
  | x :: xs, y :: ys => if x = y then lexLL xs ys else HT.lexLt x y
noncomputable def tupI (t : List Int) : D := .tup (t.map D.int)
theorem eqbs_ints : ∀ a b : List Int, eqbs (a.map D.int) (b.map D.int) = decide (a = b)
  | [], [] => rfl
  | [], _ :: _ => by simp [eqbs]
  | _ :: _, [] => by simp [eqbs]
  | x :: xs, y :: ys => by
    rw [List.map_cons, List.map_cons, eqbs, eqbs_ints xs ys, eqb]
    by_cases h : x = y <;> simp [h]
theorem from_lex {ns ms : List (List Int)} {e lt : Nat → Bool} (he : ∀ j, e j = decide (ns.getD j [] = ms.getD j [])) (hq : ∀ j, lt j = HT.lexLt (ns.getD j []) (ms.getD j [])) : ∀ (k i : Nat), i + k = ns.length → i ≤ ms.length → HT.ltFrom ns.length ms.length e lt k i = lexLL (ns.drop i) (ms.drop i)
  | 0, i, h, h2 => by
    have e1 : ns.drop i = [] := List.drop_eq_nil_of_le (by omega)
    rw [e1, HT.ltFrom]
    by_cases hi : i < ms.length
    · rw [List.drop_eq_getElem_cons hi, lexLL]
      exact decide_eq_true (by omega)
    · rw [List.drop_eq_nil_of_le (by omega : ms.length ≤ i), lexLL]
      exact decide_eq_false (by omega)
  | k + 1, i, h, h2 => by
    have hn : i < ns.length := by omega
    rw [HT.ltFrom, List.drop_eq_getElem_cons hn]
    by_cases hi : i < ms.length
    · rw [if_pos hi, List.drop_eq_getElem_cons hi, lexLL, he, hq, from_lex he hq k (i + 1) (by omega) (by omega)]
      have g1 : ns.getD i [] = ns[i] := by simp [List.getD, hn]
      have g2 : ms.getD i [] = ms[i] := by simp [List.getD, hi]
      rw [g1, g2]
      by_cases q : ns[i] = ms[i]
      · rw [if_pos (decide_eq_true q), if_pos q]
      · rw [if_neg (by simp [q]), if_neg q]
    · rw [if_neg hi, List.drop_eq_nil_of_le (by omega : ms.length ≤ i), lexLL]
      exact decide_eq_false (by omega)
noncomputable def rLtL (K : PySem.W.Frag) : R2 := fun x y H Q => ∃ ns ms : List (List Int), Rp K H NoO (.lst (ns.map tupI)) x ∧ Rp K H NoO (.lst (ms.map tupI)) y ∧ Q (.bl (lexLL ns ms)) H
theorem pl_ints (t : List Int) : pls 0 (t.map D.int) = true := by
  induction t with
  | nil => rfl
  | cons a r ih => rw [List.map_cons, pls, ih]; rfl
theorem getD_tupI (ns : List (List Int)) {j : Nat} (h : j < ns.length) : (ns.map tupI).getD j .non = tupI (ns.getD j []) := by
  simp [List.getD, h]
theorem op_ltL {X : Cx} (hu : X.A.units + 4 < cLine) : OpR X (compareOp .Lt) (rLtL X.K) := by
  intro pins s σ H x y v u Q I rx ry h
  obtain ⟨ns, ms, qx, qy, q⟩ := h
  unfold Rp at qx qy
  obtain ⟨a1, vs1, rfl, _, h1, rs1⟩ := qx
  obtain ⟨a2, vs2, rfl, _, h2, rs2⟩ := qy
  cases rx
  cases ry
  obtain ⟨its1, vr1, ht1, hz1⟩ := I.list (SqL.of h1)
  obtain ⟨its2, vr2, ht2, hz2⟩ := I.list (SqL.of h2)
  have l1 : its1.length = ns.length := by rw [← vr1.length, rs1.length, List.length_map]
  have l2 : its2.length = ms.length := by rw [← vr2.length, rs2.length, List.length_map]
  have ee : ∀ j, (fun j => decide (ns.getD j [] = ms.getD j [])) j = decide (ns.getD j [] = ms.getD j []) := fun _ => rfl
  refine HT.lt_lists (e := fun j => decide (ns.getD j [] = ms.getD j [])) (lt := fun j => HT.lexLt (ns.getD j []) (ms.getD j [])) ht1.isList ht2.isList (by omega) (fun j g1 g2 => ?_) (fun j g1 g2 => ?_) ?_
  · simp only [List.size_toArray] at g1 g2
    obtain ⟨v1, p1, p2⟩ := rps_at (X := X) rs1 vr1 j g1
    obtain ⟨v2, p3, p4⟩ := rps_at (X := X) rs2 vr2 j g2
    rw [getD_tupI ns (by omega)] at p1
    rw [getD_tupI ms (by omega)] at p3
    have := eq_at 1 1 X.A.in1 _ _ v1 v2 _ _ I (by rw [units_in1]; omega) (by unfold tupI; rw [pl]; exact pl_ints _) (by unfold tupI; rw [pl]; exact pl_ints _) p1 p3 p2 p4
    unfold tupI at this
    rw [eqb, eqbs_ints] at this
    simpa using this
  · simp only [List.size_toArray] at g1 g2
    obtain ⟨v1, p1, p2⟩ := rps_at (X := X) rs1 vr1 j g1
    obtain ⟨v2, p3, p4⟩ := rps_at (X := X) rs2 vr2 j g2
    rw [getD_tupI ns (by omega)] at p1
    rw [getD_tupI ms (by omega)] at p3
    unfold tupI Rp at p1 p3
    obtain ⟨b1, ws1, rfl, _, k1, q1⟩ := p1
    obtain ⟨b2, ws2, rfl, _, k2, q2⟩ := p3
    have e1 := q1.nums
    have e2 := q2.nums
    subst e1 e2
    obtain ⟨jt1, wr1, gt1, _⟩ := I.tuple (SqT.of k1)
    obtain ⟨jt2, wr2, gt2, _⟩ := I.tuple (SqT.of k2)
    intro prog w E Q' hq
    have z1 : its1.toArray[j] = .ref b1 := by simpa [L2.RelV] using p2
    have z2 : its2.toArray[j] = .ref b2 := by simpa [L2.RelV] using p4
    rw [z1, z2]
    exact HT.lt_tupInts gt1 gt2 (intsAre_of (by simpa using wr1)) (intsAre_of (by simpa using wr2)) (by rw [units_in1]; omega) hq
  · have key := from_lex (ns := ns) (ms := ms) (e := fun j => decide (ns.getD j [] = ms.getD j [])) (lt := fun j => HT.lexLt (ns.getD j []) (ms.getD j [])) (fun _ => rfl) (fun _ => rfl) ns.length 0 (by omega) (by omega)
    simp only [List.size_toArray, l1, l2]
    rw [key]
    exact fin_bl I q rfl
noncomputable def rowsI : List D → Option (List (List Int))
  | [] => some []
  | .tup ds :: r => (nums ds).bind fun a => (rowsI r).map (a :: ·)
  | _ :: _ => none
theorem rowsI_some : ∀ {ds : List D} {ns : List (List Int)}, rowsI ds = some ns → ds = ns.map tupI
  | [], ns, h => by simp [rowsI] at h; subst h; rfl
  | .tup d :: r, ns, h => by
    simp only [rowsI, Option.bind_eq_some_iff, Option.map_eq_some_iff] at h
    obtain ⟨a, h1, b, h2, rfl⟩ := h
    rw [List.map_cons, ← rowsI_some h2, nums_some h1]
    rfl
  | .non :: _, _, h => by simp [rowsI] at h
  | .bl _ :: _, _, h => by simp [rowsI] at h
  | .int _ :: _, _, h => by simp [rowsI] at h
  | .str _ :: _, _, h => by simp [rowsI] at h
  | .lst _ :: _, _, h => by simp [rowsI] at h
  | .dic _ :: _, _, h => by simp [rowsI] at h
  | .scr _ :: _, _, h => by simp [rowsI] at h
theorem rowsI_map : ∀ ns : List (List Int), rowsI (ns.map tupI) = some ns
  | [] => rfl
  | a :: r => by
    have e := rowsI_map r
    rw [List.map_cons]
    unfold tupI at e ⊢
    rw [rowsI, nums_map, e]
    rfl
noncomputable def fLtL (dx dy : D) : Option D := match dx, dy with
  | .lst as, .lst bs => (rowsI as).bind fun ns => (rowsI bs).map fun ms => .bl (lexLL ns ms)
  | _, _ => none
theorem pls_tupI (ns : List (List Int)) : pls 1 (ns.map tupI) = true := by
  induction ns with
  | nil => rfl
  | cons a r ih =>
    rw [List.map_cons, pls, ih]
    have : pl 1 (tupI a) = true := by unfold tupI; rw [pl]; exact pl_ints _
    rw [this]; rfl
theorem od_ltL {K : PySem.W.Frag} : OpD K (rLtL K) fLtL := fun H O dx dy d v w Q fr e rx ry q => by
  unfold fLtL at e
  split at e
  · rename_i as bs
    simp only [Option.bind_eq_some_iff, Option.map_eq_some_iff] at e
    obtain ⟨ns, h1, ms, h2, rfl⟩ := e
    have e1 := rowsI_some h1
    have e2 := rowsI_some h2
    subst e1 e2
    have p : ∀ ns : List (List Int), pl 2 (.lst (ns.map tupI)) = true := fun ns => by rw [pl]; exact pls_tupI ns
    exact ⟨ns, ms, rx.any (p ns), ry.any (p ms), q _ H (Same.refl _) rfl⟩
  · cases e
theorem sf_ltL {X : Cx} {G : Fc} {a b : Expr} {ma mb : EV} {pos : Pos} (gd : Gd X) (ha : SE X G a ma) (hb : SE X G b mb) : SF X G (.Compare a [.Lt] [b] pos) (e2 fLtL ma mb) := sf_cmp (op_ltL (hu4 gd)) od_ltL ha hb (nomark _)
end M

set_option Elab.async false
set_option linter.all false
set_option maxRecDepth 100000
namespace M
open PySem PySem.W PySem.Spec PyProof.Rows L2 PySem.Calls
noncomputable def numL : Int → Int → List D → Option D
  | _, a, [] => some (.int a)
  | b, a, .tup [_, _, .int w] :: r => if (w = 0 ∨ w = 1) ∧ dpB 12 b = true then numL (b - spanI b w) (if w = 1 then a + wayI b 0 else a) r else none
  | _, _, _ :: _ => none
noncomputable def dNum (cl bo : List D → R D) : List D → R D := fun ds => match ds with
  | [f, .lst gs] => hush cl [f, .lst gs] >>= fun _ => hush bo [f] >>= fun d => match d with
    | .int b => if gs.length ≤ 32 then ofO (numL b 0 gs) else .no
    | _ => .no
  | _ => .no
end M

set_option Elab.async false
set_option linter.all false
set_option maxRecDepth 100000
namespace TS
open PySem PySem.SetTable
noncomputable def adv (mask : Nat) (p : Probe) : Probe :=
  if p.more > 0 then { p with j := p.j + 1, more := p.more - 1 } else
  { p with j := (leap mask p.i p.perturb).1, more := runEnd mask (leap mask p.i p.perturb).1 - (leap mask p.i p.perturb).1, i := (leap mask p.i p.perturb).1, perturb := (leap mask p.i p.perturb).2 }
theorem advance_eq (t : SetTable) (p : Probe) : t.advance p = adv t.mask p := rfl
noncomputable def st (mask i pert : Nat) : Probe := { j := i, more := runEnd mask i - i, i := i, perturb := pert, dummy := none }
noncomputable def pth (mask : Nat) (h : Int) : Nat → Probe
  | 0 => st mask (bits h % (mask + 1)) (bits h)
  | n + 1 => adv mask (pth mask h n)
noncomputable def lp (mask : Nat) (h : Int) : Nat → Nat × Nat
  | 0 => (bits h % (mask + 1), bits h)
  | k + 1 => leap mask (lp mask h k).1 (lp mask h k).2
theorem run_end (mask i : Nat) : runEnd mask i - i ≤ 9 := by unfold runEnd; split <;> omega
theorem in_run (mask : Nat) (h : Int) {n i pert : Nat} (e : pth mask h n = st mask i pert) : ∀ r, r ≤ runEnd mask i - i → pth mask h (n + r) = { st mask i pert with j := i + r, more := runEnd mask i - i - r }
  | 0, _ => by rw [Nat.add_zero, e]; rfl
  | r + 1, hr => by
    have ih := in_run mask h e r (by omega)
    show adv mask (pth mask h (n + r)) = _
    rw [ih]
    unfold adv
    rw [if_pos (by show runEnd mask i - i - r > 0; omega)]
    simp only [st, Probe.mk.injEq]
    exact ⟨by omega, by omega, trivial, trivial, trivial⟩
theorem at_leap (mask : Nat) (h : Int) : ∀ k, ∃ n, n ≤ 10 * k ∧ pth mask h n = st mask (lp mask h k).1 (lp mask h k).2
  | 0 => ⟨0, by omega, rfl⟩
  | k + 1 => by
    obtain ⟨n, hn, e⟩ := at_leap mask h k
    have hr := run_end mask (lp mask h k).1
    have e2 := in_run mask h e _ (Nat.le_refl _)
    refine ⟨n + (runEnd mask (lp mask h k).1 - (lp mask h k).1) + 1, by omega, ?_⟩
    show adv mask (pth mask h _) = _
    rw [e2]
    unfold adv
    rw [if_neg (by show ¬ (_ - _ > 0); omega)]
    rfl
theorem pert_at (mask : Nat) (h : Int) : ∀ k, (lp mask h k).2 = bits h / 32 ^ k
  | 0 => by simp [lp]
  | k + 1 => by
    show (lp mask h k).2 / 32 = _
    rw [pert_at mask h k, Nat.div_div_eq_div_mul, Nat.pow_succ]
theorem bits_lt (h : Int) : bits h < 2 ^ 64 := by
  unfold bits
  have h1 := Int.emod_nonneg h (show (2 ^ 64 : Int) ≠ 0 by decide)
  have h2 := Int.emod_lt_of_pos h (show (0 : Int) < 2 ^ 64 by decide)
  omega
theorem pert_0 (mask : Nat) (h : Int) {k : Nat} (hk : 13 ≤ k) : (lp mask h k).2 = 0 := by
  rw [pert_at]
  refine Nat.div_eq_of_lt (Nat.lt_of_lt_of_le (bits_lt h) ?_)
  exact Nat.le_trans (by decide : 2 ^ 64 ≤ 32 ^ 13) (Nat.pow_le_pow_right (by decide) hk)
noncomputable def stepF (mask i : Nat) : Nat := (i * 5 + 1) % (mask + 1)
noncomputable def iter (mask : Nat) : Nat → Nat → Nat
  | 0, i => i
  | r + 1, i => stepF mask (iter mask r i)
theorem lp_iter (mask : Nat) (h : Int) : ∀ r, (lp mask h (13 + r)).1 = iter mask r (lp mask h 13).1
  | 0 => rfl
  | r + 1 => by
    show (leap mask (lp mask h (13 + r)).1 (lp mask h (13 + r)).2).1 = _
    rw [pert_0 mask h (by omega : 13 ≤ 13 + r)]
    show ((lp mask h (13 + r)).1 * 5 + 1 + 0 / 32) % (mask + 1) = _
    rw [lp_iter mask h r]
    simp [iter, stepF]
theorem iter_add (mask a : Nat) (i : Nat) : ∀ b, iter mask b (iter mask a i) = iter mask (b + a) i
  | 0 => by rw [Nat.zero_add]; rfl
  | b + 1 => by
    rw [show b + 1 + a = (b + a) + 1 by omega]
    show stepF mask _ = stepF mask _
    rw [iter_add mask a i b]
noncomputable def orbit (mask : Nat) : Nat → Nat → List Nat
  | 0, _ => []
  | n + 1, i => i :: orbit mask n (stepF mask i)
theorem orbit_iter (mask : Nat) : ∀ (n i x : Nat), x ∈ orbit mask n i → ∃ b, b < n ∧ iter mask b i = x
  | 0, _, _, h => by cases h
  | n + 1, i, x, h => by
    rcases List.mem_cons.mp h with h | h
    · exact ⟨0, by omega, h.symm⟩
    · obtain ⟨b, hb, e⟩ := orbit_iter mask n _ x h
      refine ⟨b + 1, by omega, ?_⟩
      rw [← e, ← iter_add mask 1 i b]
      rfl
noncomputable def Msk (mask : Nat) : Prop := mask = 7 ∨ mask = 31 ∨ mask = 127
theorem orb_all {mask : Nat} (hm : Msk mask) {x : Nat} (hx : x ≤ mask) : ∃ b, b ≤ mask ∧ iter mask b 0 = x := by
  have key : ∀ mask, Msk mask → (List.range (mask + 1)).all (fun x => (orbit mask (mask + 1) 0).contains x) = true := by
    rintro m (rfl | rfl | rfl) <;> decide +kernel
  have h1 := List.all_eq_true.mp (key mask hm) x (List.mem_range.mpr (by omega))
  obtain ⟨b, hb, e⟩ := orbit_iter mask (mask + 1) 0 x (by simpa using h1)
  exact ⟨b, by omega, e⟩
theorem iter_per {mask : Nat} (hm : Msk mask) : iter mask (mask + 1) 0 = 0 := by
  rcases hm with rfl | rfl | rfl <;> decide +kernel
theorem reach {mask : Nat} (hm : Msk mask) {i x : Nat} (hi : i ≤ mask) (hx : x ≤ mask) : ∃ r, r ≤ mask ∧ iter mask r i = x := by
  obtain ⟨a, ha, ea⟩ := orb_all hm hi
  obtain ⟨b, hb, eb⟩ := orb_all hm hx
  by_cases h : a ≤ b
  · refine ⟨b - a, by omega, ?_⟩
    rw [← ea, iter_add, show b - a + a = b by omega, eb]
  · refine ⟨b + (mask + 1) - a, by omega, ?_⟩
    rw [← ea, iter_add, show b + (mask + 1) - a + a = b + (mask + 1) by omega, ← iter_add, iter_per hm, eb]
theorem lp_le (mask : Nat) (h : Int) : ∀ k, (lp mask h k).1 ≤ mask
  | 0 => by have := Nat.mod_lt (bits h) (show 0 < mask + 1 by omega); show bits h % (mask + 1) ≤ mask; omega
  | k + 1 => by
    show (_ % (mask + 1)) ≤ mask
    have := Nat.mod_lt ((lp mask h k).1 * 5 + 1 + (lp mask h k).2 / 32) (show 0 < mask + 1 by omega)
    omega
theorem covers {mask : Nat} (hm : Msk mask) (h : Int) {x : Nat} (hx : x ≤ mask) : ∃ k, k < mask + 15 ∧ (lp mask h k).1 = x := by
  obtain ⟨r, hr, e⟩ := reach hm (lp_le mask h 13) hx
  exact ⟨13 + r, by omega, by rw [lp_iter, e]⟩
theorem pth_covers {mask : Nat} (hm : Msk mask) (h : Int) {x : Nat} (hx : x ≤ mask) : ∃ n, n < 10 * (mask + 15) ∧ (pth mask h n).j = x := by
  obtain ⟨k, hk, e⟩ := covers hm h hx
  obtain ⟨n, hn, e2⟩ := at_leap mask h k
  exact ⟨n, by omega, by rw [e2]; exact e⟩
theorem pth_dummy (mask : Nat) (h : Int) : ∀ n, (pth mask h n).dummy = none
  | 0 => rfl
  | n + 1 => by
    show (adv mask (pth mask h n)).dummy = none
    unfold adv
    split <;> exact pth_dummy mask h n
theorem pth_le {mask : Nat} (hm : Msk mask) (h : Int) : ∀ n, (pth mask h n).j + (pth mask h n).more ≤ mask
  | 0 => by
    have := Nat.mod_lt (bits h) (show 0 < mask + 1 by omega)
    show bits h % (mask + 1) + (runEnd mask (bits h % (mask + 1)) - bits h % (mask + 1)) ≤ mask
    unfold runEnd; split <;> omega
  | n + 1 => by
    have ih := pth_le hm h n
    show (adv mask (pth mask h n)).j + (adv mask (pth mask h n)).more ≤ mask
    unfold adv
    split
    · show (pth mask h n).j + 1 + ((pth mask h n).more - 1) ≤ mask
      omega
    · show (leap mask (pth mask h n).i (pth mask h n).perturb).1 + (runEnd mask (leap mask (pth mask h n).i (pth mask h n).perturb).1 - (leap mask (pth mask h n).i (pth mask h n).perturb).1) ≤ mask
      have : (leap mask (pth mask h n).i (pth mask h n).perturb).1 ≤ mask := by
        have := Nat.mod_lt ((pth mask h n).i * 5 + 1 + (pth mask h n).perturb / 32) (show 0 < mask + 1 by omega)
        show _ % (mask + 1) ≤ mask
        omega
      unfold runEnd; split <;> omega
theorem go_run (t : SetTable) (hashAt : Nat → Int) (h : Int) (hd : ∀ j, t.slot j ≠ .dummy) : ∀ (fuel n n' : Nat), n ≤ n' → n' < n + fuel → t.slot (pth t.mask h n').j = .empty →
    ∃ m, n ≤ m ∧ m ≤ n' ∧ (∀ q, n ≤ q → q < m → ∃ i, t.slot (pth t.mask h q).j = .live i ∧ hashAt i ≠ h) ∧
      ((t.slot (pth t.mask h m).j = .empty ∧ probe.go t hashAt h fuel (pth t.mask h n) = some (.empty (pth t.mask h m).j none)) ∨
       ∃ i, t.slot (pth t.mask h m).j = .live i ∧ hashAt i = h ∧ probe.go t hashAt h fuel (pth t.mask h n) = some (.candidate (pth t.mask h m).j i (pth t.mask h (m + 1))))
  | 0, n, n', h1, h2, _ => absurd h2 (by omega)
  | fuel + 1, n, n', h1, h2, he => by
    unfold probe.go
    cases hs : t.slot (pth t.mask h n).j with
    | empty =>
      refine ⟨n, Nat.le_refl _, h1, fun q a b => absurd b (by omega), .inl ⟨hs, ?_⟩⟩
      simp only [pth_dummy]
    | dummy => exact absurd hs (hd _)
    | live i =>
      by_cases hh : hashAt i = h
      · refine ⟨n, Nat.le_refl _, h1, fun q a b => absurd b (by omega), .inr ⟨i, hs, hh, ?_⟩⟩
        simp only [hh, beq_self_eq_true, if_true, advance_eq]
        rfl
      · have hne : n ≠ n' := fun z => by rw [← z, hs] at he; cases he
        obtain ⟨m, m1, m2, m3, m4⟩ := go_run t hashAt h hd fuel (n + 1) n' (by omega) (by omega) he
        have hb : (hashAt i == h) = false := by simpa using hh
        refine ⟨m, by omega, m2, fun q a b => ?_, ?_⟩
        · by_cases e : q = n
          · subst e; exact ⟨i, hs, hh⟩
          · exact m3 q (by omega) b
        · simp only [hb, Bool.false_eq_true, if_false, advance_eq]
          exact m4
end TS

set_option Elab.async false
set_option linter.all false
set_option maxRecDepth 100000
namespace TS
open PySem PySem.SetTable
theorem go_below (xs : Array Nat) (j : Nat) (inc : ∀ a b (ha : a < xs.size) (hb : b < xs.size), a < b → xs[a] < xs[b]) : ∀ (fuel lo hi : Nat), lo ≤ hi → hi ≤ xs.size → hi - lo ≤ fuel → (∀ i (h : i < xs.size), i < lo → xs[i] < j) → (∀ i (h : i < xs.size), hi ≤ i → j ≤ xs[i]) →
    below.go xs j fuel lo hi ≤ xs.size ∧ (∀ i (h : i < xs.size), i < below.go xs j fuel lo hi → xs[i] < j) ∧ (∀ i (h : i < xs.size), below.go xs j fuel lo hi ≤ i → j ≤ xs[i])
  | 0, lo, hi, h1, h2, h3, h4, h5 => by
    unfold below.go
    exact ⟨by omega, h4, fun i h hi' => h5 i h (by omega)⟩
  | fuel + 1, lo, hi, h1, h2, h3, h4, h5 => by
    unfold below.go
    by_cases hl : lo < hi
    · rw [if_pos hl]
      have hm : (lo + hi) / 2 < xs.size := by omega
      have e : xs.getD ((lo + hi) / 2) j = xs[(lo + hi) / 2] := by simp [Array.getD, hm]
      simp only [e]
      by_cases hc : xs[(lo + hi) / 2] < j
      · rw [if_pos hc]
        refine go_below xs j inc fuel _ hi (by omega) h2 (by omega) (fun i h hi' => ?_) h5
        by_cases z : i = (lo + hi) / 2
        · subst z; exact hc
        · have := inc i ((lo + hi) / 2) h hm (by omega); omega
      · rw [if_neg hc]
        refine go_below xs j inc fuel lo _ (by omega) (by omega) (by omega) h4 (fun i h hi' => ?_)
        by_cases z : i = (lo + hi) / 2
        · subst z; omega
        · have := inc ((lo + hi) / 2) i hm h (by omega); omega
    · rw [if_neg hl]
      exact ⟨by omega, h4, fun i h hi' => h5 i h (by omega)⟩
structure Inc (xs : Array Nat) : Prop where
  lt : ∀ a b (ha : a < xs.size) (hb : b < xs.size), a < b → xs[a] < xs[b]
theorem Inc.below {xs : Array Nat} (I : Inc xs) (j : Nat) : below xs j ≤ xs.size ∧ (∀ i (h : i < xs.size), i < below xs j → xs[i] < j) ∧ (∀ i (h : i < xs.size), below xs j ≤ i → j ≤ xs[i]) :=
  go_below xs j I.lt xs.size 0 xs.size (Nat.zero_le _) (Nat.le_refl _) (by omega) (fun i _ h => absurd h (by omega)) (fun i h h' => absurd h (by omega))
theorem Inc.at_below {xs : Array Nat} (I : Inc xs) {i j : Nat} (h : i < xs.size) (e : xs[i] = j) : SetTable.below xs j = i := by
  obtain ⟨b1, b2, b3⟩ := I.below j
  have hr : SetTable.below xs j ≤ i := Nat.le_of_not_lt fun z => by have := b2 i h z; omega
  by_cases z : SetTable.below xs j = i
  · exact z
  · have h1 := I.lt (SetTable.below xs j) i (by omega) h (by omega)
    have h2 := b3 (SetTable.below xs j) (by omega) (Nat.le_refl _)
    omega
structure TOk (t : SetTable) (hs : List Int) : Prop where
  msk : Msk t.mask
  dum : t.dummies = #[]
  inc : Inc t.place
  len : t.place.size = hs.length
  bnd : ∀ x ∈ t.place.toList, x ≤ t.mask
  path : ∀ (i j : Nat) (h : Int), t.place.toList[i]? = some j → hs[i]? = some h → ∃ n, n < 10 * (t.mask + 15) ∧ (pth t.mask h n).j = j ∧ ∀ m, m < n → (pth t.mask h m).j ∈ t.place.toList
section
variable {t : SetTable} {hs : List Int}
theorem slot_live (T : Inc t.place) {i j : Nat} (h : t.place.toList[i]? = some j) : t.slot j = .live i := by
  obtain ⟨hi, e⟩ := List.getElem?_eq_some_iff.mp h
  have hi' : i < t.place.size := by simpa using hi
  have e' : t.place[i] = j := by simpa using e
  have := T.at_below hi' e'
  unfold slot
  rw [this]
  have e2 : t.place[i]? = some j := by simp [hi', e']
  simp [e2]
theorem slot_of (T : Inc t.place) (hd : t.dummies = #[]) (j : Nat) : (∃ i, t.slot j = .live i ∧ t.place.toList[i]? = some j) ∨ (t.slot j = .empty ∧ j ∉ t.place.toList) := by
  by_cases h : j ∈ t.place.toList
  · obtain ⟨i, hi⟩ := List.getElem?_of_mem h
    exact .inl ⟨i, slot_live T hi, hi⟩
  · refine .inr ⟨?_, h⟩
    unfold slot
    have e : (t.place[SetTable.below t.place j]? == some j) = false := by
      rw [beq_eq_false_iff_ne]
      intro z
      obtain ⟨hi, e⟩ := Array.getElem?_eq_some_iff.mp z
      exact h (by rw [← e]; simp)
    have e2 : has t.dummies j = false := by
      rw [hd]
      unfold has
      simp
    simp [e, e2]
theorem no_dummy (T : Inc t.place) (hd : t.dummies = #[]) (j : Nat) : t.slot j ≠ .dummy := fun z => by
  rcases slot_of T hd j with ⟨i, e, _⟩ | ⟨e, _⟩ <;> (rw [e] at z; cases z)
theorem all_in : ∀ (n : Nat) (ps : List Nat), (∀ x, x < n → x ∈ ps) → n ≤ ps.length
  | 0, _, _ => Nat.zero_le _
  | n + 1, ps, h => by
    have hn := h n (by omega)
    have := all_in n (ps.erase n) fun x hx => (List.mem_erase_of_ne (by omega)).2 (h x (by omega))
    rw [List.length_erase_of_mem hn] at this
    have := List.length_pos_of_mem hn
    omega
theorem has_room (T : TOk t hs) (hr : hs.length ≤ t.mask) : ∃ x, x ≤ t.mask ∧ x ∉ t.place.toList := by
  refine Decidable.byContradiction fun hc => ?_
  have := all_in (t.mask + 1) t.place.toList fun x hx => Decidable.byContradiction fun z => hc ⟨x, by omega, z⟩
  have := T.len
  simp at *
  omega
theorem first_free (T : TOk t hs) (hr : hs.length ≤ t.mask) (h : Int) : ∃ m, m < 10 * (t.mask + 15) ∧ (pth t.mask h m).j ∉ t.place.toList ∧ ∀ q, q < m → (pth t.mask h q).j ∈ t.place.toList := by
  obtain ⟨x, hx, hn⟩ := has_room T hr
  obtain ⟨n, hn1, e⟩ := pth_covers T.msk h hx
  have : ∀ k, (∃ n, n < k ∧ (pth t.mask h n).j ∉ t.place.toList) → ∃ m, m < k ∧ (pth t.mask h m).j ∉ t.place.toList ∧ ∀ q, q < m → (pth t.mask h q).j ∈ t.place.toList := by
    intro k
    induction k with
    | zero => rintro ⟨n, z, _⟩; omega
    | succ k ih =>
      rintro ⟨n, z, hz⟩
      by_cases hb : ∃ n, n < k ∧ (pth t.mask h n).j ∉ t.place.toList
      · obtain ⟨m, a, b, c⟩ := ih hb
        exact ⟨m, by omega, b, c⟩
      · have : n = k := Decidable.byContradiction fun q => hb ⟨n, by omega, hz⟩
        subst this
        exact ⟨n, z, hz, fun q hq => Decidable.byContradiction fun w => hb ⟨q, hq, w⟩⟩
  exact this _ ⟨n, hn1, by rw [e]; exact hn⟩
theorem put_ok (T : TOk t hs) {h : Int} {m : Nat} (hm : m < 10 * (t.mask + 15)) (hf : (pth t.mask h m).j ∉ t.place.toList) (hp : ∀ q, q < m → (pth t.mask h q).j ∈ t.place.toList) :
    TOk (t.put (pth t.mask h m).j).1 (hs.take (t.put (pth t.mask h m).j).2 ++ h :: hs.drop (t.put (pth t.mask h m).j).2) ∧ (t.put (pth t.mask h m).j).2 ≤ hs.length := by
  have hle := pth_le T.msk h m
  generalize hj : (pth t.mask h m).j = j at *
  obtain ⟨b1, b2, b3⟩ := T.inc.below j
  have hd : has t.dummies j = false := by rw [T.dum]; unfold has; simp
  have ep : t.put j = ({ t with place := insertAt t.place (SetTable.below t.place j) j }, SetTable.below t.place j) := by
    unfold put
    simp [hd]
  rw [ep]
  generalize hb : SetTable.below t.place j = p at *
  have el : (insertAt t.place p j).toList = t.place.toList.take p ++ j :: t.place.toList.drop p := toList_insertAt _ _ _
  have mem : ∀ x, x ∈ (insertAt t.place p j).toList ↔ x = j ∨ x ∈ t.place.toList := fun x => by
    rw [el, List.mem_append, List.mem_cons]
    have := List.take_append_drop p t.place.toList
    constructor
    · rintro (z | z | z)
      · exact .inr (List.mem_of_mem_take z)
      · exact .inl z
      · exact .inr (List.mem_of_mem_drop z)
    · rintro (z | z)
      · exact .inr (.inl z)
      · rw [← this, List.mem_append] at z
        rcases z with z | z
        · exact .inl z
        · exact .inr (.inr z)
  have lt1 : ∀ i x, t.place.toList[i]? = some x → i < p → x < j := fun i x hx hi => by
    obtain ⟨h1, e⟩ := List.getElem?_eq_some_iff.mp hx
    have := b2 i (by simpa using h1) hi
    have e' : t.place[i]'(by simpa using h1) = x := by simpa using e
    omega
  have lt2 : ∀ i x, t.place.toList[i]? = some x → p ≤ i → j < x := fun i x hx hi => by
    obtain ⟨h1, e⟩ := List.getElem?_eq_some_iff.mp hx
    have := b3 i (by simpa using h1) hi
    have e' : t.place[i]'(by simpa using h1) = x := by simpa using e
    have ne : x ≠ j := fun z => hf (by rw [← z]; exact List.mem_of_getElem? hx)
    omega
  have hsz : t.place.toList.length = hs.length := by simpa using T.len
  have pw : (insertAt t.place p j).toList.Pairwise (· < ·) := by
    have base : t.place.toList.Pairwise (· < ·) := by
      rw [List.pairwise_iff_getElem]
      intro a b ha hb hab
      have := T.inc.lt a b (by simpa using ha) (by simpa using hb) hab
      simpa using this
    rw [el, List.pairwise_append, List.pairwise_cons]
    refine ⟨base.sublist (List.take_sublist _ _), ⟨fun x hx => ?_, base.sublist (List.drop_sublist _ _)⟩, fun x hx y hy => ?_⟩
    · obtain ⟨i, hi⟩ := List.getElem?_of_mem hx
      rw [List.getElem?_drop] at hi
      exact lt2 _ x hi (by omega)
    · obtain ⟨i, hi⟩ := List.getElem?_of_mem hx
      rw [List.getElem?_take] at hi
      split at hi
      · rename_i hip
        have h1 := lt1 i x hi hip
        rcases List.mem_cons.mp hy with z | z
        · omega
        · obtain ⟨k, hk⟩ := List.getElem?_of_mem z
          rw [List.getElem?_drop] at hk
          have := lt2 _ y hk (by omega)
          omega
      · cases hi
  refine ⟨⟨T.msk, T.dum, ⟨fun a b ha hb hab => ?_⟩, ?_, fun x hx => ?_, fun i x h' hx hh => ?_⟩, by rw [← T.len]; exact b1⟩
  · have := List.pairwise_iff_getElem.mp pw a b (by simpa using ha) (by simpa using hb) hab
    simpa using this
  · have := congrArg List.length el
    have hp' : p ≤ hs.length := by rw [← T.len]; exact b1
    simp only [List.length_append, List.length_take, List.length_cons, List.length_drop, Array.length_toList] at this ⊢
    have := T.len
    omega
  · rcases (mem x).1 hx with z | z
    · show x ≤ t.mask
      omega
    · exact T.bnd x z
  · have hp' : p ≤ hs.length := by rw [← T.len]; exact b1
    have ltake : (t.place.toList.take p).length = p := by rw [List.length_take]; omega
    have ltake' : (hs.take p).length = p := by rw [List.length_take]; omega
    show ∃ n, n < 10 * (t.mask + 15) ∧ (pth t.mask h' n).j = x ∧ ∀ m, m < n → (pth t.mask h' m).j ∈ (insertAt t.place p j).toList
    have hx : (t.place.toList.take p ++ j :: t.place.toList.drop p)[i]? = some x := by rw [← el]; exact hx
    have hh : (hs.take p ++ h :: hs.drop p)[i]? = some h' := hh
    have old : ∀ k, t.place.toList[k]? = some x → hs[k]? = some h' → ∃ n, n < 10 * (t.mask + 15) ∧ (pth t.mask h' n).j = x ∧ ∀ m, m < n → (pth t.mask h' m).j ∈ (insertAt t.place p j).toList := fun k hk1 hk2 => by
      obtain ⟨n, n1, n2, n3⟩ := T.path k x h' hk1 hk2
      exact ⟨n, n1, n2, fun m hm => (mem _).2 (.inr (n3 m hm))⟩
    rcases Nat.lt_trichotomy i p with z | z | z
    · rw [List.getElem?_append_left (by omega), List.getElem?_take, if_pos z] at hx
      rw [List.getElem?_append_left (by omega), List.getElem?_take, if_pos z] at hh
      exact old i hx hh
    · rw [List.getElem?_append_right (by omega), ltake, z, Nat.sub_self] at hx
      rw [List.getElem?_append_right (by omega), ltake', z, Nat.sub_self] at hh
      cases hx
      cases hh
      exact ⟨m, hm, hj, fun q hq => (mem _).2 (.inr (hp q hq))⟩
    · rw [List.getElem?_append_right (by omega), ltake] at hx
      rw [List.getElem?_append_right (by omega), ltake'] at hh
      obtain ⟨d, rfl⟩ : ∃ d, i = p + 1 + d := ⟨i - (p + 1), by omega⟩
      rw [show p + 1 + d - p = d + 1 by omega, List.getElem?_cons_succ, List.getElem?_drop] at hx hh
      exact old (p + d) hx hh
end
end TS

set_option Elab.async false
set_option linter.all false
set_option maxRecDepth 100000
namespace TS
open PySem PySem.SetTable
noncomputable abbrev Own := Array (Option Nat)
noncomputable def occ (o : Own) (j : Nat) : Bool := (o.getD j none).isSome
noncomputable def lives (mask : Nat) (o : Own) : List (Nat × Nat) := (List.range (mask + 1)).filterMap fun j => (o.getD j none).map (j, ·)
theorem fm_congr {α β : Type} {f f' : α → Option β} : ∀ l : List α, (∀ x ∈ l, f' x = f x) → l.filterMap f' = l.filterMap f
  | [], _ => rfl
  | a :: l, h => by
    rw [List.filterMap_cons, List.filterMap_cons, h a (by simp), fm_congr l fun x hx => h x (by simp [hx])]
theorem fm_perm {α β : Type} {f f' : α → Option β} {j : α} {v : β} (h1 : f j = none) (h2 : f' j = some v) (h3 : ∀ x, x ≠ j → f' x = f x) : ∀ l : List α, l.Nodup → j ∈ l → (l.filterMap f').Perm (v :: l.filterMap f)
  | [], _, h => by cases h
  | a :: l, nd, h => by
    rw [List.nodup_cons] at nd
    by_cases e : a = j
    · subst e
      have : l.filterMap f' = l.filterMap f := fm_congr l fun x hx => h3 x fun z => nd.1 (z ▸ hx)
      rw [List.filterMap_cons, List.filterMap_cons, h1, h2, this]
    · have hl : j ∈ l := by
        rcases List.mem_cons.mp h with z | z
        · exact absurd z.symm e
        · exact z
      have ih := fm_perm h1 h2 h3 l nd.2 hl
      rw [List.filterMap_cons, List.filterMap_cons, h3 a e]
      cases f a with
      | none => exact ih
      | some b => exact (ih.cons b).trans (List.Perm.swap v b _)
structure LOk (mask : Nat) (o : Own) (hs : List Int) : Prop where
  size : o.size = mask + 1
  live : ((lives mask o).map (·.2)).Perm (List.range hs.length)
  path : ∀ (j c : Nat) (h : Int), o.getD j none = some c → hs[c]? = some h → ∃ n, n < 10 * (mask + 15) ∧ (pth mask h n).j = j ∧ ∀ m, m < n → occ o (pth mask h m).j = true
theorem getD_some {o : Own} {mask j : Nat} (hs : o.size = mask + 1) (hj : j ≤ mask) : (o.getD j (some 0)).isNone = !(occ o j) := by
  have h : j < o.size := by omega
  have e : o[j]? = some o[j] := by simp [h]
  unfold occ
  rw [Array.getD_eq_getD_getElem?, Array.getD_eq_getD_getElem?, e]
  show (o[j]).isNone = !(o[j]).isSome
  cases o[j] <;> rfl
theorem lives_room {mask : Nat} {o : Own} {hs : List Int} (L : LOk mask o hs) (hl : hs.length ≤ mask) : ∃ x, x ≤ mask ∧ occ o x = false := by
  refine Decidable.byContradiction fun hc => ?_
  have hall : ∀ x, x ≤ mask → occ o x = true := fun x hx => by
    cases e : occ o x with
    | true => rfl
    | false => exact absurd ⟨x, hx, e⟩ hc
  have e : (lives mask o).map (·.1) = List.range (mask + 1) := by
    unfold lives
    rw [List.map_filterMap]
    have : ∀ l : List Nat, (∀ x ∈ l, x ≤ mask) → l.filterMap (fun j => ((o.getD j none).map (j, ·)).map (·.1)) = l := fun l => by
      induction l with
      | nil => exact fun _ => rfl
      | cons a l ih =>
        intro hl
        have ha := hall a (hl a (by simp))
        unfold occ at ha
        obtain ⟨c, hc⟩ := Option.isSome_iff_exists.mp ha
        rw [List.filterMap_cons, hc]
        show a :: _ = _
        rw [ih fun x hx => hl x (by simp [hx])]
    exact this _ fun x hx => by have := List.mem_range.mp hx; omega
  have h1 := congrArg List.length e
  have h2 := L.live.length_eq
  rw [List.length_map, List.length_range] at h1 h2
  omega
theorem free_spec {mask : Nat} {o : Own} (hsz : o.size = mask + 1) (hm : Msk mask) (h : Int) : ∀ (fuel k n K : Nat), n ≤ 10 * k → pth mask h n = st mask (lp mask h k).1 (lp mask h k).2 → (∀ m, m < n → occ o (pth mask h m).j = true) → k ≤ K → K < k + fuel → occ o (lp mask h K).1 = false →
    ∃ n', n' < 10 * (k + fuel) ∧ layClean.free mask o fuel (lp mask h k).1 (lp mask h k).2 = some (pth mask h n').j ∧ occ o (pth mask h n').j = false ∧ ∀ m, m < n' → occ o (pth mask h m).j = true
  | 0, k, n, K, _, _, _, h1, h2, _ => absurd h2 (by omega)
  | fuel + 1, k, n, K, hn, hp, ho, h1, h2, hK => by
    have hr := run_end mask (lp mask h k).1
    have hle := lp_le mask h k
    have hend : runEnd mask (lp mask h k).1 ≤ mask ∧ (lp mask h k).1 ≤ runEnd mask (lp mask h k).1 := by
      unfold runEnd; split <;> omega
    have hrun := in_run mask h hp
    have hat : ∀ d, d ≤ runEnd mask (lp mask h k).1 - (lp mask h k).1 → (pth mask h (n + d)).j = (lp mask h k).1 + d := fun d hd => by rw [hrun d hd]
    have hemp : ∀ d, d ≤ runEnd mask (lp mask h k).1 - (lp mask h k).1 → (o.getD ((lp mask h k).1 + d) (some 0)).isNone = !(occ o ((lp mask h k).1 + d)) := fun d hd => getD_some hsz (by omega)
    unfold layClean.free
    cases hf : (List.range (runEnd mask (lp mask h k).1 + 1 - (lp mask h k).1)).find? fun k_1 => (o.getD ((lp mask h k).1 + k_1) (some 0)).isNone with
    | some d =>
      have hf' := List.find?_range_eq_some.mp hf
      have hd : d < runEnd mask (lp mask h k).1 + 1 - (lp mask h k).1 := by
        have := List.mem_of_find?_eq_some hf
        simpa using this
      refine ⟨n + d, by omega, ?_, ?_, fun m hm' => ?_⟩
      · rw [hat d (by omega)]
      · rw [hat d (by omega)]
        have := List.find?_some hf
        rw [hemp d (by omega)] at this
        simpa using this
      · by_cases z : m < n
        · exact ho m z
        · obtain ⟨e, rfl⟩ : ∃ e, m = n + e := ⟨m - n, by omega⟩
          rw [hat e (by omega)]
          have := hf'.2.2 e (by omega)
          rw [hemp e (by omega)] at this
          simpa using this
    | none =>
      have hfull : ∀ d, d ≤ runEnd mask (lp mask h k).1 - (lp mask h k).1 → occ o ((lp mask h k).1 + d) = true := fun d hd => by
        have := List.find?_eq_none.mp hf d (List.mem_range.mpr (by omega))
        rw [hemp d hd] at this
        simpa using this
      have hne : K ≠ k := fun z => by
        subst z
        have := hfull 0 (by omega)
        rw [Nat.add_zero, hK] at this
        cases this
      have e2 := hrun _ (Nat.le_refl _)
      have hp2 : pth mask h (n + (runEnd mask (lp mask h k).1 - (lp mask h k).1) + 1) = st mask (lp mask h (k + 1)).1 (lp mask h (k + 1)).2 := by
        show adv mask (pth mask h _) = _
        rw [e2]
        unfold adv
        rw [if_neg (by show ¬ (_ - _ > 0); omega)]
        rfl
      obtain ⟨n', a1, a2, a3, a4⟩ := free_spec hsz hm h fuel (k + 1) _ K (by omega) hp2 (fun m hm' => by
        by_cases z : m < n
        · exact ho m z
        · obtain ⟨e, rfl⟩ : ∃ e, m = n + e := ⟨m - n, by omega⟩
          rw [hat e (by omega)]
          exact hfull e (by omega)) (by omega) (by omega) hK
      exact ⟨n', by omega, a2, a3, a4⟩
theorem lay_step {mask : Nat} (hm : Msk mask) {o : Own} {hs : List Int} (L : LOk mask o hs) (hl : hs.length ≤ mask) (h : Int) : ∃ j, layClean.free mask o (turns mask) (bits h % (mask + 1)) (bits h) = some j ∧ LOk mask (o.setIfInBounds j (some hs.length)) (hs ++ [h]) := by
  obtain ⟨x, hx, hxo⟩ := lives_room L hl
  obtain ⟨K, hK, eK⟩ := covers hm h hx
  obtain ⟨n, a1, a2, a3, a4⟩ := free_spec L.size hm h (mask + 15) 0 0 K (by omega) rfl (fun m z => absurd z (by omega)) (by omega) (by omega) (by rw [eK]; exact hxo)
  have hle := pth_le hm h n
  refine ⟨_, a2, ?_⟩
  generalize hj : (pth mask h n).j = j at *
  have hj' : j < o.size := by rw [L.size]; omega
  have hnone : o.getD j none = none := by
    unfold occ at a3
    cases e : o.getD j none with
    | none => rfl
    | some c => rw [e] at a3; cases a3
  have hsame : ∀ y, y ≠ j → (o.setIfInBounds j (some hs.length)).getD y none = o.getD y none := fun y hy => by
    rw [Array.getD_eq_getD_getElem?, Array.getD_eq_getD_getElem?, Array.getElem?_setIfInBounds_ne (Ne.symm hy)]
  have hnew : (o.setIfInBounds j (some hs.length)).getD j none = some hs.length := by
    simp [Array.getD, hj']
  have hmono : ∀ y, occ o y = true → occ (o.setIfInBounds j (some hs.length)) y = true := fun y hy => by
    unfold occ at hy ⊢
    by_cases z : y = j
    · subst z; rw [hnew]; rfl
    · rw [hsame y z]; exact hy
  refine ⟨by rw [Array.size_setIfInBounds]; exact L.size, ?_, fun y c g hy hg => ?_⟩
  · have p : (lives mask (o.setIfInBounds j (some hs.length))).Perm ((j, hs.length) :: lives mask o) := by
      refine fm_perm (j := j) ?_ ?_ (fun y hy => ?_) _ List.nodup_range (List.mem_range.mpr (by omega))
      · rw [hnone]; rfl
      · rw [hnew]; rfl
      · rw [hsame y hy]
    have p2 := p.map (·.2)
    refine p2.trans ?_
    rw [List.map_cons, List.length_append, List.length_singleton, List.range_succ]
    exact ((L.live.cons _).trans (List.perm_append_singleton _ _).symm)
  · by_cases z : y = j
    · subst z
      rw [hnew] at hy
      cases hy
      rw [List.getElem?_append_right (Nat.le_refl _), Nat.sub_self] at hg
      cases hg
      exact ⟨n, by omega, hj, fun m hm' => hmono _ (a4 m hm')⟩
    · rw [hsame y z] at hy
      have hc : c < hs.length := by
        have : c ∈ (lives mask o).map (·.2) := by
          refine List.mem_map.mpr ⟨(y, c), List.mem_filterMap.mpr ⟨y, ?_, by rw [hy]; rfl⟩, rfl⟩
          refine List.mem_range.mpr ?_
          have : y < o.size := Decidable.byContradiction fun q => by simp [Array.getD, q] at hy
          rw [L.size] at this
          exact this
        have := L.live.mem_iff.1 this
        exact List.mem_range.mp this
      rw [List.getElem?_append_left hc] at hg
      obtain ⟨n', b1, b2, b3⟩ := L.path y c g hy hg
      exact ⟨n', b1, b2, fun m hm' => hmono _ (b3 m hm')⟩
theorem lay_nil (mask : Nat) : LOk mask (Array.replicate (mask + 1) none) [] := by
  have h : ∀ j, (Array.replicate (mask + 1) (none : Option Nat)).getD j none = none := fun j => by
    simp [Array.getD]
  refine ⟨by simp, ?_, fun j c g hj _ => by rw [h] at hj; cases hj⟩
  have : lives mask (Array.replicate (mask + 1) none) = [] := by
    unfold lives
    rw [List.filterMap_eq_nil_iff]
    intro j _
    rw [h]; rfl
  rw [this]
  exact List.Perm.nil
noncomputable def layS (mask : Nat) (acc : Option (Own × Nat)) (h : Int) : Option (Own × Nat) := acc.bind fun (p : Own × Nat) => (layClean.free mask p.1 (turns mask) (bits h % (mask + 1)) (bits h)).bind fun j => some (p.1.setIfInBounds j (some p.2), p.2 + 1)
theorem lay_fold {mask : Nat} (hm : Msk mask) : ∀ (gs hs : List Int) (o : Own), LOk mask o hs → hs.length + gs.length ≤ mask + 1 → ∃ o', gs.foldl (layS mask) (some (o, hs.length)) = some (o', (hs ++ gs).length) ∧ LOk mask o' (hs ++ gs)
  | [], hs, o, L, _ => ⟨o, by simp, by simpa using L⟩
  | h :: gs, hs, o, L, hl => by
    simp only [List.length_cons] at hl
    obtain ⟨j, e, L'⟩ := lay_step hm L (by omega) h
    have e2 : layS mask (some (o, hs.length)) h = some (o.setIfInBounds j (some hs.length), (hs ++ [h]).length) := by
      unfold layS
      show (layClean.free mask o (turns mask) (bits h % (mask + 1)) (bits h)).bind _ = _
      rw [e]
      simp
    rw [List.foldl_cons, e2]
    obtain ⟨o', a, b⟩ := lay_fold hm gs (hs ++ [h]) _ L' (by simp; omega)
    refine ⟨o', ?_, ?_⟩
    · rw [a]; simp
    · simpa using b
theorem layClean_ok {mask : Nat} (hm : Msk mask) (hs : Array Int) (hl : hs.size ≤ mask + 1) : ∃ o, layClean mask hs = some o ∧ LOk mask o hs.toList := by
  obtain ⟨o, e, L⟩ := lay_fold hm hs.toList [] _ (lay_nil mask) (by simpa using hl)
  refine ⟨o, ?_, by simpa using L⟩
  have e3 : layClean mask hs = (hs.toList.foldl (layS mask) (some (Array.replicate (mask + 1) none, 0))).map (·.1) := by
    unfold layClean
    rw [← Array.foldl_toList]
    rfl
  rw [e3]
  have e : hs.toList.foldl (layS mask) (some (Array.replicate (mask + 1) none, 0)) = some (o, ([] ++ hs.toList).length) := e
  rw [e]
  rfl
theorem lives_inc (mask : Nat) (o : Own) : (lives mask o).Pairwise (fun a b => a.1 < b.1) := by
  unfold lives
  have : ∀ l : List Nat, l.Pairwise (· < ·) → (l.filterMap fun j => (o.getD j none).map (j, ·)).Pairwise (fun (a b : Nat × Nat) => a.1 < b.1) := fun l => by
    induction l with
    | nil => exact fun _ => List.Pairwise.nil
    | cons a l ih =>
      intro h
      rw [List.pairwise_cons] at h
      rw [List.filterMap_cons]
      cases o.getD a none with
      | none => exact ih h.2
      | some c =>
        refine List.Pairwise.cons (fun b hb => ?_) (ih h.2)
        obtain ⟨j, hj, e⟩ := List.mem_filterMap.mp hb
        cases z : o.getD j none with
        | none => rw [z] at e; cases e
        | some d =>
          rw [z] at e
          cases e
          exact h.1 j hj
  exact this _ List.pairwise_lt_range
theorem relaid_ok (t : SetTable) (hs : Array Int) (wanted : Nat) (hm : Msk (sizeAbove wanted - 1)) (hl : hs.size ≤ sizeAbove wanted - 1) :
    ∃ (t' : SetTable) (order : Array Nat), t.relaid hs wanted = some (t', order) ∧ order.toList.Perm (List.range hs.size) ∧ TOk t' (order.toList.map fun c => hs.toList.getD c 0) ∧ t'.mask = sizeAbove wanted - 1 ∧ t'.led = t.led ∧ t'.plain = t.plain := by
  rw [show t.relaid hs wanted = laid (sizeAbove wanted - 1) t.finger (t.movedTo (sizeAbove wanted - 1)) t.led t.plain hs from rfl]
  generalize sizeAbove wanted - 1 = mask at *
  obtain ⟨o, e, L⟩ := layClean_ok hm hs (by omega)
  have hmem : ∀ p, p ∈ lives mask o → o.getD p.1 none = some p.2 ∧ p.1 ≤ mask := fun p hp => by
    obtain ⟨j, hj, ej⟩ := List.mem_filterMap.mp hp
    have := List.mem_range.mp hj
    cases z : o.getD j none with
    | none => rw [z] at ej; cases ej
    | some d =>
      rw [z] at ej
      cases ej
      exact ⟨z, by show j ≤ mask; omega⟩
  have hocc : ∀ x, x ≤ mask → (occ o x = true ↔ x ∈ (lives mask o).map (·.1)) := fun x hx => by
    constructor
    · intro h
      unfold occ at h
      obtain ⟨c, hc⟩ := Option.isSome_iff_exists.mp h
      exact List.mem_map.mpr ⟨(x, c), List.mem_filterMap.mpr ⟨x, List.mem_range.mpr (by omega), by rw [hc]; rfl⟩, rfl⟩
    · intro h
      obtain ⟨p, hp, rfl⟩ := List.mem_map.mp h
      unfold occ
      rw [(hmem p hp).1]; rfl
  refine ⟨{ mask := mask, place := ((lives mask o).map (·.1)).toArray, dummies := #[], finger := t.finger, led := t.led, moves := t.movedTo mask, plain := t.plain }, ((lives mask o).map (·.2)).toArray, ?_, ?_, ?_, rfl, rfl, rfl⟩
  · unfold laid
    rw [e]
    rfl
  · simpa using L.live
  · refine ⟨hm, rfl, ⟨fun a b ha hb hab => ?_⟩, ?_, fun x hx => ?_, fun i j h hj hh => ?_⟩
    · have := List.pairwise_iff_getElem.mp (lives_inc mask o) a b (by simpa using ha) (by simpa using hb) hab
      simpa using this
    · simp
    · have hx : x ∈ (lives mask o).map (·.1) := by simpa using hx
      obtain ⟨p, hp, rfl⟩ := List.mem_map.mp hx
      exact (hmem p hp).2
    · have hj : ((lives mask o).map (·.1))[i]? = some j := by simpa using hj
      have hh : (((lives mask o).map (·.2)).map fun c => hs.toList.getD c 0)[i]? = some h := by simpa using hh
      rw [List.getElem?_map] at hj
      rw [List.getElem?_map, List.getElem?_map] at hh
      cases z : (lives mask o)[i]? with
      | none => rw [z] at hj; cases hj
      | some p =>
        rw [z] at hj hh
        cases hj
        cases hh
        have hp := List.mem_of_getElem? z
        have hc : p.2 < hs.size := by
          have := L.live.mem_iff.1 (List.mem_map.mpr ⟨p, hp, rfl⟩)
          simpa using this
        have hg : hs.toList[p.2]? = some (hs.toList.getD p.2 0) := by
          simp [List.getD, hc]
        obtain ⟨n, n1, n2, n3⟩ := L.path p.1 p.2 _ (hmem p hp).1 hg
        refine ⟨n, n1, n2, fun m hm' => ?_⟩
        have hle := pth_le hm (hs.toList.getD p.2 0) m
        have := (hocc _ (by omega)).1 (n3 m hm')
        simpa using this
end TS

set_option Elab.async false
set_option linter.all false
set_option maxRecDepth 100000
namespace TS
open PySem PySem.SetTable PyProof.Rows
section
variable {prog : Program} {w : World} {A : Around} {E : Value → Shared → Prop} {s : Shared}
noncomputable abbrev hT (prog : Program) (w : World) (k : List Int) : Int := tupleKeyHash (intKind prog w) k
noncomputable abbrev IsT (prog : Program) (w : World) (h : Heap) (k : List Int) (p : Addr) : Prop := IsTupleKey (intKind prog w) h k p
noncomputable def ent (prog : Program) (w : World) (q : List Int × Addr) : Int × Value := (hT prog w q.1, .ref q.2)
structure SetAt (prog : Program) (w : World) (h : Heap) (a : Addr) (o : Obj) (es : Array (Int × Value)) (ep : Nat) (t : SetTable) (ps : List (List Int × Addr)) : Prop where
  get : h.get? a = some o
  ex : o.ExactSet
  data : o.data = .set es ep t
  ents : es.toList = ps.map (ent prog w)
  tab : TOk t (ps.map fun q => hT prog w q.1)
  room : ps.length * 5 < t.mask * 3
  plain : t.plain = true
  keys : ∀ q ∈ ps, IsT prog w h q.1 q.2
  nd : (ps.map (·.1)).Nodup
variable {a : Addr} {o : Obj} {es : Array (Int × Value)} {ep : Nat} {t : SetTable} {ps : List (List Int × Addr)}
theorem SetAt.size (S : SetAt prog w s.heap a o es ep t ps) : es.size = ps.length := by
  have := congrArg List.length S.ents
  simpa using this
theorem SetAt.fits (S : SetAt prog w s.heap a o es ep t ps) : t.fits es.size = true := by
  have h1 := S.tab.len
  have h2 := S.room
  rw [List.length_map] at h1
  unfold SetTable.fits SetTable.fill
  rw [S.tab.dum, S.size, h1]
  simp
  omega
theorem SetAt.ent_at (S : SetAt prog w s.heap a o es ep t ps) {i : Nat} {q : List Int × Addr} (h : ps[i]? = some q) : es[i]? = some (hT prog w q.1, .ref q.2) := by
  have : es.toList[i]? = some (hT prog w q.1, .ref q.2) := by rw [S.ents, List.getElem?_map, h]; rfl
  simpa using this
theorem probe_res (S : SetAt prog w s.heap a o es ep t ps) {k : List Int} {m mf : Nat} {f : Nat → Int} {met : Option Met} (hm : t.probe f (hT prog w k) (pth t.mask (hT prog w k) m) = met) (hf : ∀ i, f i = (es[i]?.map (·.1)).getD 0)
    (f1 : mf < 10 * (t.mask + 15)) (f2 : (pth t.mask (hT prog w k) mf).j ∉ t.place.toList) (f3 : ∀ q, q < mf → (pth t.mask (hT prog w k) q).j ∈ t.place.toList) (hmf : m ≤ mf)
    (pre : ∀ n, n < m → ∀ i q, t.slot (pth t.mask (hT prog w k) n).j = .live i → ps[i]? = some q → q.1 ≠ k) :
    (met = some (.empty (pth t.mask (hT prog w k) mf).j none) ∧ k ∉ ps.map (·.1)) ∨
    ∃ m2 i q, m2 < mf ∧ m ≤ m2 ∧ met = some (.candidate (pth t.mask (hT prog w k) m2).j i (pth t.mask (hT prog w k) (m2 + 1))) ∧ t.slot (pth t.mask (hT prog w k) m2).j = .live i ∧ ps[i]? = some q ∧
      (q.1 ≠ k → ∀ n, n < m2 + 1 → ∀ i q, t.slot (pth t.mask (hT prog w k) n).j = .live i → ps[i]? = some q → q.1 ≠ k) := by
  have T := S.tab
  have empt : t.slot (pth t.mask (hT prog w k) mf).j = .empty := by
    rcases slot_of T.inc T.dum (pth t.mask (hT prog w k) mf).j with ⟨i, _, e⟩ | ⟨e, _⟩
    · exact absurd (List.mem_of_getElem? e) f2
    · exact e
  have hfi : ∀ i q, ps[i]? = some q → f i = hT prog w q.1 := fun i q hq => by rw [hf, S.ent_at hq]; rfl
  obtain ⟨m2, a1, a2, a3, a4⟩ := go_run t f (hT prog w k) (no_dummy T.inc T.dum) (10 * turns t.mask) m mf hmf (by show mf < m + 10 * (t.mask + 15); omega) empt
  have hlive : ∀ {j i}, t.slot j = .live i → t.place.toList[i]? = some j ∧ ∃ q, ps[i]? = some q := fun {j i} h => by
    rcases slot_of T.inc T.dum j with ⟨i', e, e'⟩ | ⟨e, _⟩
    · rw [h] at e
      cases e
      refine ⟨e', ?_⟩
      have hl := T.len
      rw [List.length_map] at hl
      have := (List.getElem?_eq_some_iff.mp e').1
      simp only [Array.length_toList] at this
      exact ⟨ps[i]'(by omega), by simp [show i < ps.length by omega]⟩
    · rw [h] at e; cases e
  rcases a4 with ⟨b1, b2⟩ | ⟨i, b1, b2, b3⟩
  · have e : m2 = mf := by
      by_cases z : m2 < mf
      · have := f3 m2 z
        rcases slot_of T.inc T.dum (pth t.mask (hT prog w k) m2).j with ⟨i, e, _⟩ | ⟨_, e⟩
        · rw [b1] at e; cases e
        · exact absurd this e
      · omega
    subst e
    refine .inl ⟨hm.symm.trans b2, fun hk => ?_⟩
    obtain ⟨q, hq, ek⟩ := List.mem_map.mp hk
    obtain ⟨i, hi⟩ := List.getElem?_of_mem hq
    have hl := T.len
    rw [List.length_map] at hl
    have hip : i < t.place.toList.length := by
      have := (List.getElem?_eq_some_iff.mp hi).1
      simp only [Array.length_toList]; omega
    obtain ⟨n, n1, n2, n3⟩ := T.path i _ (hT prog w k) (List.getElem?_eq_getElem hip) (by rw [List.getElem?_map, hi]; simp [ek])
    have hin : (pth t.mask (hT prog w k) n).j ∈ t.place.toList := by rw [n2]; exact List.getElem_mem hip
    have hn : n < m2 := by
      rcases Nat.lt_trichotomy n m2 with z | z | z
      · exact z
      · rw [z] at hin; exact absurd hin f2
      · exact absurd (n3 m2 z) f2
    have hsl : t.slot (pth t.mask (hT prog w k) n).j = .live i := slot_live T.inc (by rw [n2]; exact List.getElem?_eq_getElem hip)
    by_cases z : n < m
    · exact pre n z i q hsl hi ek
    · obtain ⟨i', c1, c2⟩ := a3 n (by omega) hn
      rw [hsl] at c1
      cases c1
      exact c2 (by rw [hfi i q hi, ek])
  · obtain ⟨_, q, hq⟩ := hlive b1
    have hlt : m2 < mf := by
      by_cases z : m2 = mf
      · subst z; rw [empt] at b1; cases b1
      · omega
    refine .inr ⟨m2, i, q, hlt, a1, hm.symm.trans b3, b1, hq, fun hne n hn i' q' hs hq' => ?_⟩
    by_cases z : n < m
    · exact pre n z i' q' hs hq'
    · by_cases z2 : n = m2
      · subst z2
        rw [b1] at hs
        cases hs
        rw [hq] at hq'
        cases hq'
        exact hne
      · obtain ⟨i'', c1, c2⟩ := a3 n (by omega) (by omega)
        rw [hs] at c1
        cases c1
        intro ek
        exact c2 (by rw [hfi i' q' hq', ek])
theorem items_int {k : List Int} {vs : List Value} (h : ItemsAre (intKind prog w) k vs) : ∀ v ∈ vs, ∃ n tk, v = .int n tk := by
  induction h with
  | nil => intro v hv; cases hv
  | @cons k v ks vs h1 _ ih =>
    intro u hu
    rcases List.mem_cons.mp hu with rfl | hu
    · cases u with
      | int n tk => exact ⟨n, tk, rfl⟩
      | _ => cases h1
    · exact ih u hu
theorem wp_ofClass {k : List Int} {p : Addr} {Q : Bool → Shared → Prop} (hk : IsT prog w s.heap k p) (h : Q false s) : wpAny (model prog w) A (ofAClassStatement 8 (.ref p)) Q E s := by
  have hT := hk.typeIs
  obtain ⟨ob, items, n, ho, hc, hd, hi⟩ := hk
  unfold ofAClassStatement
  refine wpAny_bind (wpAny_typeOf hT ?_)
  dsimp only
  rw [if_pos (by decide)]
  first | (simp only [Bool.not_true, Bool.false_eq_true, if_false]; refine wpAny_bind (wpAny_seqItems ho hd ?_)) | (refine wpAny_bind (wpAny_pure ?_); simp only [Bool.not_true, Bool.false_eq_true, if_false]; refine wpAny_bind (wpAny_seqItems ho hd ?_))
  dsimp only
  refine wpAny_bind ?_
  rw [← Array.forIn_toList]
  refine wpAny_forIn_list _ (fun rest r s' => r.1 = none ∧ s' = s ∧ ∀ v ∈ rest, ∃ n tk, v = Value.int n tk) _ ?_ ?_ _ _ ⟨rfl, rfl, items_int hi⟩
  · rintro v rest r s' ⟨hr, rfl, hall⟩
    obtain ⟨n, tk, rfl⟩ := hall v List.mem_cons_self
    unfold ofAClassStatement
    refine wpAny_bind (wpAny_pure ?_)
    simp only [Bool.false_eq_true, if_false]
    exact wpAny_pure ⟨rfl, rfl, fun u hu' => hall u (List.mem_cons_of_mem _ hu')⟩
  · rintro ⟨r1, r2⟩ s' ⟨hr, rfl, _⟩
    simp only at hr
    subst hr
    exact wpAny_pure h
theorem wp_byValue {k : List Int} {p : Addr} {Q : Bool → Shared → Prop} (hk : IsT prog w s.heap k p) (h : Q true s) : wpAny (model prog w) A (hashByValue 8 (.ref p)) Q E s := by
  have hT := hk.typeIs
  obtain ⟨ob, items, n, ho, hc, hd, hi⟩ := hk
  unfold hashByValue
  refine wpAny_bind (wpAny_specialOf hT F.slot_tuple_hash.lookup ?_)
  dsimp only
  refine wpAny_bind (wpAny_seqItems ho hd ?_)
  refine wpAny_bind ?_
  show wpAny _ _ (forIn items _ _) _ _ s
  rw [← Array.forIn_toList]
  refine wpAny_forIn_list _ (fun rest r s' => r.1 = none ∧ s' = s ∧ ∀ v ∈ rest, ∃ n tk, v = Value.int n tk) _ ?_ ?_ _ _ ⟨rfl, rfl, items_int hi⟩
  · rintro v rest r s' ⟨hr, rfl, hall⟩
    obtain ⟨n, tk, rfl⟩ := hall v List.mem_cons_self
    unfold hashByValue
    refine wpAny_bind (wpAny_pure ?_)
    simp only [Bool.not_true, Bool.false_eq_true, if_false]
    exact wpAny_pure ⟨rfl, rfl, fun u hu' => hall u (List.mem_cons_of_mem _ hu')⟩
  · rintro ⟨r1, r2⟩ s' ⟨hr, rfl, _⟩
    simp only at hr
    subst hr
    exact wpAny_pure h
theorem wp_seen {k : List Int} {p : Addr} {Q : Bool → Shared → Prop} (hk : IsT prog w s.heap k p) (ys : List Value) (hy : ∀ y ∈ ys, ∃ k' p', y = .ref p' ∧ IsT prog w s.heap k' p') (h : Q false s) : wpAny (model prog w) A (searchCouldBeSeen (.ref p) ys) Q E s := by
  unfold searchCouldBeSeen
  refine wpAny_bind ?_
  refine wpAny_forIn_list _ (fun rest r s' => r.1 = none ∧ s' = s ∧ ∀ v ∈ rest, ∃ k' p', v = Value.ref p' ∧ IsT prog w s.heap k' p') _ ?_ ?_ _ _ ⟨rfl, rfl, hy⟩
  · rintro v rest r s' ⟨hr, rfl, hall⟩
    obtain ⟨k', p', rfl, hk'⟩ := hall v List.mem_cons_self
    have fin : (none : Option Bool) = none ∧ s' = s' ∧ ∀ v ∈ rest, ∃ k' p', v = Value.ref p' ∧ IsT prog w s'.heap k' p' := ⟨rfl, rfl, fun u hu' => hall u (List.mem_cons_of_mem _ hu')⟩
    by_cases hpp : (p == p') = true
    · simp only [hpp, Bool.true_or, if_true]
      exact wpAny_pure fin
    · have hpp : (p == p') = false := by simpa using hpp
      simp only [hpp, carriedByValue, Bool.and_self, Bool.or_self, Bool.false_eq_true, if_false]
      refine wpAny_bind (wpAny_eqIsQuiet_tuple hk ?_)
      simp only [Bool.not_true, Bool.false_eq_true, if_false]
      refine wpAny_bind (wpAny_eqIsQuiet_tuple hk' ?_)
      simp only [Bool.not_true, Bool.false_eq_true, if_false]
      refine wpAny_bind (wp_ofClass hk ?_)
      simp only [Bool.false_eq_true, if_false]
      refine wpAny_bind (wp_ofClass hk' ?_)
      simp only [Bool.false_eq_true, if_false]
      exact wpAny_pure fin
  · rintro ⟨r1, r2⟩ s' ⟨hr, rfl, _⟩
    simp only at hr
    subst hr
    exact wpAny_pure h
theorem wp_same {x : Addr} {Q : Bool → Shared → Prop} (h : Q true s) : wpAny (model prog w) A (isSame (.ref x) (.ref x)) Q E s := by
  unfold isSame
  simp only [beq_self_eq_true, if_true]
  exact wpAny_pure h
theorem search_wp (hu : A.units < cLine) (S : SetAt prog w s.heap a o es ep t ps) {k : List Int} {p : Addr} (hk : IsT prog w s.heap k p) {mf : Nat}
    (f1 : mf < 10 * (t.mask + 15)) (f2 : (pth t.mask (hT prog w k) mf).j ∉ t.place.toList) (f3 : ∀ q, q < mf → (pth t.mask (hT prog w k) q).j ∈ t.place.toList)
    {Q : SetFound → Shared → Prop} (h1 : k ∈ ps.map (·.1) → Q (.there none) s) (h2 : k ∉ ps.map (·.1) → Q (.free (pth t.mask (hT prog w k) mf).j false) s) :
    ∀ (fuel m : Nat) (stand : Option Probe), stand.getD (t.probeStart (hT prog w k)) = pth t.mask (hT prog w k) m → m ≤ mf → mf - m < fuel →
      (∀ n, n < m → ∀ i q, t.slot (pth t.mask (hT prog w k) n).j = .live i → ps[i]? = some q → q.1 ≠ k) →
      wpAny (model prog w) A (setSearchFrom a (.ref p) (hT prog w k) true fuel stand) Q E s
  | 0, m, stand, _, _, hf, _ => absurd hf (by omega)
  | fuel + 1, m, stand, hst, hm, hf, pre => by
    unfold setSearchFrom
    refine wpAny_bind (wpAny_setState_of S.get S.data S.fits ?_)
    dsimp only
    have hodd : t.gaveWay = false := by
      unfold SetTable.gaveWay
      rcases S.tab.msk with e | e | e <;> rw [e] <;> rfl
    rw [hodd]
    simp only [Bool.false_eq_true, if_false]
    rw [hst]
    generalize hmet : SetTable.probe t _ (hT prog w k) (pth t.mask (hT prog w k) m) = met
    rcases probe_res S hmet (fun i => rfl) f1 f2 f3 hm pre with ⟨e, hn⟩ | ⟨m2, i, q, c1, c2, e, c3, c4, c5⟩
    · subst e
      exact wpAny_pure (h2 hn)
    · subst e
      have hq := S.keys q (List.mem_of_getElem? c4)
      have he := S.ent_at c4
      dsimp only
      have hsm : t.sameMemory t.moves t.mask = some true := by unfold SetTable.sameMemory; simp
      have hst : ∀ y ∈ (Array.filter (fun x => x.1 == hT prog w k) es).toList.map (fun x => x.2), ∃ k' p', y = Value.ref p' ∧ IsT prog w s.heap k' p' := fun y hy => by
        obtain ⟨e, he, rfl⟩ := List.mem_map.mp hy
        have he : e ∈ es.toList := by
          have h2 := he
          simp at h2
          simpa using h2.1
        rw [S.ents] at he
        obtain ⟨q', hq', rfl⟩ := List.mem_map.mp he
        exact ⟨q'.1, q'.2, rfl, S.keys q' hq'⟩
      cases hled : t.led
      · simp only [Bool.not_false, if_true]
        refine wpAny_bind (wp_seen hk _ hst ?_)
        simp only [Bool.false_eq_true, if_false]
        rw [he]
        dsimp only
        refine wpAny_bind (wpAny_holding (wpAny_eqBool_tuple hu hq hk ?_))
        refine wpAny_bind (wpAny_setState_of S.get S.data S.fits ?_)
        dsimp only
        by_cases hqk : q.1 = k
        · simp only [decide_eq_true hqk, Bool.and_self, if_true]
          exact wpAny_pure (h1 (List.mem_map.mpr ⟨q, List.mem_of_getElem? c4, hqk⟩))
        · simp only [decide_eq_false hqk, Bool.and_false, Bool.false_eq_true, if_false]
          rw [hsm]
          dsimp only
          rw [if_pos rfl, c3]
          dsimp only
          rw [he]
          dsimp only
          refine wpAny_bind (wp_same ?_)
          refine wpAny_bind (wpAny_pure ?_)
          simp only [if_true]
          exact search_wp hu S hk f1 f2 f3 h1 h2 fuel (m2 + 1) _ rfl (by omega) (by omega) (c5 hqk)
      · simp only [Bool.not_true, Bool.false_eq_true, if_false]
        rw [he]
        dsimp only
        refine wpAny_bind (wpAny_holding (wpAny_eqBool_tuple hu hq hk ?_))
        refine wpAny_bind (wpAny_setState_of S.get S.data S.fits ?_)
        dsimp only
        by_cases hqk : q.1 = k
        · simp only [decide_eq_true hqk, Bool.and_self, if_true]
          exact wpAny_pure (h1 (List.mem_map.mpr ⟨q, List.mem_of_getElem? c4, hqk⟩))
        · simp only [decide_eq_false hqk, Bool.and_false, Bool.false_eq_true, if_false]
          rw [hsm]
          dsimp only
          rw [if_pos rfl, c3]
          dsimp only
          rw [he]
          dsimp only
          refine wpAny_bind (wp_same ?_)
          refine wpAny_bind (wpAny_pure ?_)
          simp only [if_true]
          exact search_wp hu S hk f1 f2 f3 h1 h2 fuel (m2 + 1) _ rfl (by omega) (by omega) (c5 hqk)
theorem fm_get {α : Type} (xs : List α) (d : α) : ∀ l : List Nat, (∀ c ∈ l, c < xs.length) → l.filterMap (fun c => xs[c]?) = l.map (fun c => xs.getD c d)
  | [], _ => rfl
  | c :: l, h => by
    have hc := h c (by simp)
    rw [List.filterMap_cons, fm_get xs d l fun x hx => h x (by simp [hx])]
    have : xs[c]? = some (xs.getD c d) := by simp [List.getD, hc]
    rw [this]
    rfl
theorem add_wp (hu : A.units < cLine) (S : SetAt prog w s.heap a o es ep t ps) {k : List Int} {p : Addr} (hk : IsT prog w s.heap k p) (hl : ps.length < 60) {Q : Bool → Shared → Prop}
    (h : ∀ (b : Bool) (h' : Heap) o' es' ep' t' ps', Heap.SameBut a s.heap h' → SetAt prog w h' a o' es' ep' t' ps' → t'.led = t.led → (∀ k', k' ∈ ps'.map (·.1) ↔ k' = k ∨ k' ∈ ps.map (·.1)) → ps'.length ≤ ps.length + 1 → (∀ q ∈ ps', q = (k, p) ∨ q ∈ ps) → Q b { s with heap := h' }) :
    wpAny (model prog w) A (setAddHashed a (.ref p) (hT prog w k)) Q E s := by
  unfold setAddHashed setAddHashedIn
  refine wpAny_holding (wpAny_bind (wpAny_setState_of S.get S.data S.fits ?_))
  dsimp only
  have hns : byScan (.ref p) es = false := by simp [byScan, Value.scannable]
  rw [hns]
  simp only [Bool.false_eq_true, if_false]
  have hroom : ps.length ≤ t.mask := by have := S.room; omega
  obtain ⟨mf, f1, f2, f3⟩ := first_free S.tab (by rw [List.length_map]; exact hroom) (hT prog w k)
  unfold setSearch
  refine wpAny_bind (search_wp hu S hk f1 f2 f3 (fun hin => ?_) (fun hout => ?_) 100000 0 none rfl (by omega) (by rcases S.tab.msk with e | e | e <;> rw [e] at f1 <;> omega) (fun n z => absurd z (by omega)))
  · dsimp only
    refine wpAny_pure ?_
    have e : s = { s with heap := s.heap } := by cases s; rfl
    rw [e]
    exact h false s.heap o es ep t ps (Heap.SameBut.refl a s.heap) S rfl (fun k' => ⟨.inr, fun z => z.elim (fun z => z ▸ hin) id⟩) (by omega) (fun q hq => .inr hq)
  · dsimp only
    refine wpAny_bind (wpAny_setState_of S.get S.data S.fits ?_)
    dsimp only
    obtain ⟨T1, hpi⟩ := put_ok S.tab f1 f2 f3
    have e1 : (t.put (pth t.mask (hT prog w k) mf).j).1.plain = t.plain := rfl
    have e2 : (t.put (pth t.mask (hT prog w k) mf).j).1.led = t.led := rfl
    have e3 : (t.put (pth t.mask (hT prog w k) mf).j).1.mask = t.mask := rfl
    generalize ht1 : (t.put (pth t.mask (hT prog w k) mf).j).1 = t1 at *
    generalize hpi' : (t.put (pth t.mask (hT prog w k) mf).j).2 = pi at *
    rw [List.length_map] at hpi
    rw [e1, S.plain, if_pos rfl]
    refine wpAny_bind (wp_byValue hk ?_)
    simp only [if_true]
    have hn1 : k ∉ ps.map (·.1) := hout
    obtain ⟨ps1, hps1⟩ : ∃ ps1, ps1 = ps.take pi ++ (k, p) :: ps.drop pi := ⟨_, rfl⟩
    have pm : ps1.Perm ((k, p) :: ps) := by
      rw [hps1]
      exact (List.perm_middle).trans (by rw [List.take_append_drop])
    have el1 : (insertAt es pi (hT prog w k, Value.ref p)).toList = ps1.map (ent prog w) := by
      rw [toList_insertAt, S.ents, hps1, List.map_append, List.map_cons, List.map_take, List.map_drop]
      rfl
    have T1 : TOk t1 (ps1.map fun q => hT prog w q.1) := by
      rw [hps1, List.map_append, List.map_cons, List.map_take, List.map_drop]
      exact T1
    have len1 : ps1.length = ps.length + 1 := by rw [pm.length_eq]; rfl
    generalize hes1 : insertAt es pi (hT prog w k, Value.ref p) = es1 at *
    have sz1 : es1.size = ps.length + 1 := by
      have := congrArg List.length el1
      simp only [Array.length_toList, List.length_map] at this
      omega
    have hz1 : es1.size ≤ sizeLine := by rw [sz1, sizeLine_eq]; omega
    refine wpAny_bind (wpAny_storeSet_of S.get S.data ?_ hz1)
    have g1 : (s.heap.update a (Obj.putSet es1 t1)).get? a = some { o with data := .set es1 (ep + 1) t1 } := by
      have := Heap.get?_update_self (Obj.putSet es1 t1) S.get (by rw [putSet_of es1 t1 S.data]; rfl)
      rw [putSet_of es1 t1 S.data] at this; exact this
    have sb1 := Heap.SameBut.update s.heap a (Obj.putSet es1 t1)
    have keep : ∀ {h' : Heap} {k' : List Int} {p' : Addr}, Heap.SameBut a s.heap h' → IsT prog w s.heap k' p' → IsT prog w h' k' p' := fun {h' k' p'} sb hx => by
      obtain ⟨ob, items, n, ho, hc, hd, hi⟩ := hx
      have hne : p' ≠ a := fun z => by
        subst z
        rw [S.get] at ho
        cases ho
        rw [S.data] at hd
        cases hd
      exact ⟨ob, items, n, (sb.2 p' hne).trans ho, hc, hd, hi⟩
    have keys1 : ∀ {h' : Heap}, Heap.SameBut a s.heap h' → ∀ q ∈ ps1, IsT prog w h' q.1 q.2 := fun {h'} sb q hq => by
      rcases List.mem_cons.mp (pm.mem_iff.1 hq) with z | z
      · subst z; exact keep sb hk
      · exact keep sb (S.keys q z)
    have nd1 : (ps1.map (·.1)).Nodup := (pm.map (·.1)).nodup_iff.2 (by rw [List.map_cons, List.nodup_cons]; exact ⟨hn1, S.nd⟩)
    have mem1 : ∀ k', k' ∈ ps1.map (·.1) ↔ k' = k ∨ k' ∈ ps.map (·.1) := fun k' => by
      rw [(pm.map (·.1)).mem_iff, List.map_cons, List.mem_cons]
    have hfill : t1.fill = ps.length + 1 := by
      unfold SetTable.fill
      have := T1.len
      rw [List.length_map] at this
      rw [T1.dum, this, len1]
      rfl
    have hr := S.room
    by_cases hfull : t1.tooFull = true
    · have hfu : (ps.length + 1) * 5 ≥ t.mask * 3 := by
        have := of_decide_eq_true hfull
        rw [hfill, e3] at this
        exact this
      have hcase : Msk (sizeAbove (grown (es.size + 1)) - 1) ∧ (ps.length + 1) * 5 < (sizeAbove (grown (es.size + 1)) - 1) * 3 ∧ sizeAbove (grown (es.size + 1)) ≤ 128 := by
        rw [S.size]
        rcases S.tab.msk with e | e | e
        · have : ps.length = 4 := by omega
          rw [this]; exact ⟨.inr (.inl (by decide +kernel)), by decide +kernel, by decide +kernel⟩
        · have : ps.length = 18 := by omega
          rw [this]; exact ⟨.inr (.inr (by decide +kernel)), by decide +kernel, by decide +kernel⟩
        · omega
      obtain ⟨q1, q2, q3⟩ := hcase
      have hsl : ¬ sizeAbove (grown (es.size + 1)) > sizeLine := by rw [sizeLine_eq]; omega
      have hle : (es1.map (·.1)).size ≤ sizeAbove (grown (es.size + 1)) - 1 := by rw [Array.size_map, sz1]; omega
      obtain ⟨t2, order, r1, r2, r3, r4, r5, r6⟩ := relaid_ok t1 (es1.map (·.1)) (grown (es.size + 1)) q1 hle
      rw [if_pos (by simp [hfull])]
      unfold setRelay
      have fit1 : t1.fits es1.size = true := by
        have := T1.len
        rw [List.length_map] at this
        unfold SetTable.fits
        rw [hfill, sz1, this, len1, e3]
        simp
        omega
      refine wpAny_bind (wpAny_bind (wpAny_setState_of g1 rfl fit1 ?_))
      dsimp only
      rw [if_neg hsl]
      rw [r1]
      have hszm : (es1.map (·.1)).size = ps1.length := by rw [Array.size_map, sz1, len1]
      rw [hszm] at r2
      have hlt : ∀ c ∈ order.toList, c < ps1.length := fun c hc => List.mem_range.mp (r2.mem_iff.1 hc)
      obtain ⟨ps2, hps2⟩ : ∃ ps2, ps2 = order.toList.filterMap (fun c => ps1[c]?) := ⟨_, rfl⟩
      have pm2 : ps2.Perm ps1 := by
        have := r2.filterMap (fun c => ps1[c]?)
        rw [PySem.List.filterMap_getElem?_range_length] at this
        rw [hps2]; exact this
      have len2 : ps2.length = ps.length + 1 := by rw [pm2.length_eq, len1]
      have el2 : (order.filterMap (fun c => es1[c]?)).toList = ps2.map (ent prog w) := by
        rw [Array.toList_filterMap, hps2, List.map_filterMap]
        refine fm_congr _ fun c _ => ?_
        have : es1.toList[c]? = (ps1[c]?).map (ent prog w) := by rw [el1, List.getElem?_map]
        simpa using this
      have T2 : TOk t2 (ps2.map fun q => hT prog w q.1) := by
        have e : (order.toList.map fun c => (es1.map (·.1)).toList.getD c 0) = ps2.map fun q => hT prog w q.1 := by
          rw [hps2, fm_get ps1 ([], 0) _ hlt, List.map_map]
          refine List.map_congr_left fun c hc => ?_
          have hc' := hlt c hc
          have e4 : (es1.map (·.1)).toList = ps1.map fun q => hT prog w q.1 := by
            rw [Array.toList_map, el1, List.map_map]; rfl
          rw [e4]
          simp [List.getD, hc']
        rw [← e]; exact r3
      generalize hes2 : order.filterMap (fun c => es1[c]?) = es2 at *
      have sz2 : es2.size = ps.length + 1 := by
        have := congrArg List.length el2
        simp only [Array.length_toList, List.length_map] at this
        omega
      have hz2 : es2.size ≤ sizeLine := by rw [sz2, sizeLine_eq]; omega
      have hreo : wpAny (model prog w) A (if (es2.size != es1.size) = true then (do unsupported "internal:set-table-lost-an-element"; pure (es2, t2)) else (pure (es2, t2) : Sem (Array (Int × Value) × SetTable))) (fun x s' => x = (es2, t2) ∧ s' = { s with heap := s.heap.update a (Obj.putSet es1 t1) }) E { s with heap := s.heap.update a (Obj.putSet es1 t1) } := by
        rw [if_neg (by rw [sz2, sz1]; simp)]
        exact wpAny_pure ⟨rfl, rfl⟩
      refine wpAny_bind (wpAny_mono (show wpAny _ _ _ (fun x s' => x = (es2, t2) ∧ s' = { s with heap := s.heap.update a (Obj.putSet es1 t1) }) E _ from (by subst hes2; exact hreo)) ?_ fun _ _ z => z)
      rintro x s' ⟨rfl, rfl⟩
      dsimp only
      have g2 : ((s.heap.update a (Obj.putSet es1 t1)).update a (Obj.putSet es2 t2)).get? a = some { o with data := .set es2 (ep + 1 + 1) t2 } := by
        have := Heap.get?_update_self (Obj.putSet es2 t2) g1 (by rw [putSet_of es2 t2 rfl]; rfl)
        rw [putSet_of es2 t2 rfl] at this; exact this
      have sb2 : Heap.SameBut a s.heap ((s.heap.update a (Obj.putSet es1 t1)).update a (Obj.putSet es2 t2)) := sb1.trans (Heap.SameBut.update _ a _)
      refine wpAny_storeSet_of g1 rfl ?_ hz2
      refine wpAny_pure (h true _ _ es2 (ep + 1 + 1) t2 ps2 sb2 ⟨g2, S.ex, rfl, el2, T2, by rw [len2, r4]; exact q2, by rw [r6, e1, S.plain], fun q hq => keys1 sb2 q (pm2.mem_iff.1 hq), (pm2.map (·.1)).nodup_iff.2 nd1⟩ (by rw [r5, e2]) (fun k' => by rw [(pm2.map (·.1)).mem_iff]; exact mem1 k') (by omega) (fun q hq => List.mem_cons.mp (pm.mem_iff.1 (pm2.mem_iff.1 hq))))
    · have hfull : t1.tooFull = false := by simpa using hfull
      rw [if_neg (by simp [hfull])]
      have hfu : (ps.length + 1) * 5 < t.mask * 3 := by
        have := of_decide_eq_false hfull
        rw [hfill, e3] at this
        omega
      refine wpAny_pure (h true _ _ es1 (ep + 1) t1 ps1 sb1 ⟨g1, S.ex, rfl, el1, T1, by rw [len1, e3]; exact hfu, by rw [e1, S.plain], keys1 sb1, nd1⟩ e2 mem1 (by omega) (fun q hq => List.mem_cons.mp (pm.mem_iff.1 hq)))
end
end TS

set_option Elab.async false
set_option linter.all false
set_option maxRecDepth 100000
set_option maxHeartbeats 4000000
namespace TS
open PySem PySem.SetTable PyProof.Rows
section
variable {prog : Program} {w : World} {A : Around} {R : Result → Shared → Prop} {I : Addr} {fp wr : List Addr} {G : Array GenState → Array GenState → Prop} {n : Nat} {P : Nat → Value → Prop} {St : Nat → Shared → Prop}
theorem isT_at {h h' : Heap} {k : List Int} {p : Addr} (x : IsT prog w h k p) (e : ∀ o, h.get? p = some o → h'.get? p = some o) : IsT prog w h' k p := by
  obtain ⟨ob, items, m, ho, hc, hd, hi⟩ := x
  exact ⟨ob, items, m, e _ ho, hc, hd, hi⟩
theorem upd_loop (W : WalksS prog w A.in1 I fp wr G n P St) (S : Addr) (hSf : S ∉ fp) (h0 : Heap) (key : Nat → List Int) (Z : List Int → Addr → Prop) (hu : A.in1.units < cLine)
    (hkey : ∀ i v, P i v → ∃ p, v = .ref p ∧ p ∉ S :: wr ∧ IsT prog w h0 (key i) p ∧ Z (key i) p) (hn : n < 60) (ld : Bool) :
    ∀ (k i : Nat) (s : Shared) (o : Obj) (es : Array (Int × Value)) (ep : Nat) (t : SetTable) (ps : List (List Int × Addr)), n - i = k → i ≤ n → St i s → (∀ b ob, b ∉ S :: wr → h0.get? b = some ob → s.heap.get? b = some ob) →
      SetAt prog w s.heap S o es ep t ps → t.led = ld → (∀ q ∈ ps, q.2 ∉ S :: wr ∧ IsT prog w h0 q.1 q.2 ∧ Z q.1 q.2) → (∀ k', k' ∈ ps.map (·.1) ↔ ∃ j, j < i ∧ key j = k') → ps.length ≤ i →
      (∀ s' o' es' ep' t' ps', Moved (S :: wr) G s s' → SetAt prog w s'.heap S o' es' ep' t' ps' → t'.led = ld → (∀ q ∈ ps', q.2 ∉ S :: wr ∧ IsT prog w h0 q.1 q.2 ∧ Z q.1 q.2) → (∀ k', k' ∈ ps'.map (·.1) ↔ ∃ j, j < n ∧ key j = k') → ps'.length ≤ n → R (.ok (.ret .none)) s') →
      codeAny (model prog w) A (.builtin "set.update.loop" ⟨[.ref S, .ref I], []⟩) R s := by
  have hSw : S ∉ wr := fun h => hSf (W.sub _ h)
  have hsub : ∀ b ∈ wr, b ∈ S :: wr := fun b hb => List.mem_cons_of_mem _ hb
  have move : ∀ {s s' : Shared} {o es ep t ps}, SetAt prog w s.heap S o es ep t ps → Moved wr G s s' → (∀ q ∈ ps, q.2 ∉ S :: wr ∧ IsT prog w h0 q.1 q.2 ∧ Z q.1 q.2) → SetAt prog w s'.heap S o es ep t ps := fun {s s' o es ep t ps} x hm hq =>
    ⟨hm.heap S _ hSw x.get, x.ex, x.data, x.ents, x.tab, x.room, x.plain, fun q hq' => isT_at (x.keys q hq') fun ob e => hm.heap q.2 ob (fun z => (hq q hq').1 (hsub _ z)) e, x.nd⟩
  intro k
  induction k with
  | zero =>
    intro i s o es ep t ps hk hi hst hpr hS hld hq hmem hlen hR
    have hin : i = n := by omega
    subst hin
    refine codeAny_builtin PyProof.Rows.F.entry_set_update_loop ?_
    rw [Around.under_plainId PyProof.Rows.F.plain_set_update_loop _]
    show wpAny _ A.in1 (pyNext (.ref I) >>= _) _ _ s
    refine wpAny_bind (W.done s _ _ hst fun s' hm => ?_)
    show wpAny _ A.in1 (ret Value.none) _ _ s'
    exact wpAny_pure (hR s' o es ep t ps (hm.mono hsub) (move hS hm hq) hld hq hmem hlen)
  | succ k ih =>
    intro i s o es ep t ps hk hi hst hpr hS hld hq hmem hlen hR
    have hlt : i < n := by omega
    refine codeAny_builtin PyProof.Rows.F.entry_set_update_loop ?_
    rw [Around.under_plainId PyProof.Rows.F.plain_set_update_loop _]
    show wpAny _ A.in1 (pyNext (.ref I) >>= _) _ _ s
    refine wpAny_bind (W.item i s _ _ hlt hst fun v s' hP hst' hm => ?_)
    obtain ⟨p, rfl, hpn, hkp, hz⟩ := hkey i v hP
    have hpr' : ∀ b ob, b ∉ S :: wr → h0.get? b = some ob → s'.heap.get? b = some ob := fun b ob hb e => hm.heap b ob (fun z => hb (hsub _ z)) (hpr b ob hb e)
    have hkp' : IsT prog w s'.heap (key i) p := isT_at hkp fun ob e => hpr' p ob hpn e
    have hS' := move hS hm hq
    show wpAny _ A.in1 (holding [Value.ref p] (setAdd S (.ref p)) >>= _) _ _ s'
    refine wpAny_bind (wpAny_holding ?_)
    unfold setAdd
    refine wpAny_holding ?_
    refine wpAny_bind (wpAny_pyHash_tuple hu hkp' ?_)
    refine add_wp (s := { s' with toks := s'.toks + ((key i).length + 1) }) hu hS' hkp' (by omega) fun b h' o' es' ep' t' ps' hsb hS2 hl2 hm2 hln2 hq2 => ?_
    refine wpAny_pure ⟨plainId_quiet PyProof.Rows.F.plain_set_update_loop _, ih (i + 1) _ o' es' ep' t' ps' (by omega) hlt (W.frame _ s' _ _ hst' (Nat.le_add_right _ _) fun b hb ob e => ?_) (fun b ob hb e => ?_) hS2 (by rw [hl2, hld]) (fun q hq' => ?_) (fun k' => ?_) (by omega) fun s'' o3 es3 ep3 t3 ps3 hm3 hS3 hl3 hq3 hmem3 hlen3 => ?_⟩
    · rw [hsb.2 b (fun h : b = S => hSf (by rw [← h]; exact hb))]; exact e
    · rw [hsb.2 b (fun h : b = S => hb (by rw [h]; exact List.mem_cons_self))]; exact hpr' b ob hb e
    · rcases hq2 q hq' with z | z
      · subst z; exact ⟨hpn, hkp, hz⟩
      · exact hq q z
    · rw [hm2 k', hmem k']
      constructor
      · rintro (z | ⟨j, hj, z⟩)
        · exact ⟨i, by omega, z.symm⟩
        · exact ⟨j, by omega, z⟩
      · rintro ⟨j, hj, z⟩
        by_cases e : j = i
        · subst e; exact .inl z.symm
        · exact .inr ⟨j, by omega, z⟩
    · refine hR s'' o3 es3 ep3 t3 ps3 (Moved.trans W.gtrans ((hm.mono hsub).then_heap (Nat.le_add_right _ _) fun b ob hb e => ?_) hm3) hS3 hl3 hq3 hmem3 hlen3
      rw [hsb.2 b (fun h : b = S => hb (by rw [h]; exact List.mem_cons_self))]; exact e
end
section
variable {prog : Program} {w : World} {A : Around} {E : Value → Shared → Prop} {s : Shared}
noncomputable abbrev set0 (w : World) : Obj := { cls := .type "set", dict := none, data := .set #[] 0 (.fresh 0 0 (!w.params.followText "set-order")) }
theorem new_set (v : Value) {Q₁ : Value → Shared → Prop} (h : Q₁ (.ref s.heap.objs.size) { s with heap := s.heap.push (set0 w) }) :
    codeAny (model prog w) A (.call (.builtin "set.__new__") ⟨[.type "set", v], []⟩) (wants Q₁ E) s := by
  refine codeAny_of_tree ?_
  show wpAny _ A.in1 (do checkBuiltinCall "set.__new__" ⟨[.type "set", v], []⟩; again (.builtin "set.__new__" ⟨[.type "set", v], []⟩)) _ _ s
  refine wpAny_bind (wpAny_of_eq (PySem.F.newCall_set_1 v) (wpAny_pure ⟨plainId_quiet PySem.F.plain_set_new _, codeAny_builtin PySem.F.entry_set_new ?_⟩))
  rw [Around.under_plainId PySem.F.plain_set_new _]
  unfold Builtin.«set.__new__» Builtin.Frozenset.newClass
  have hsub := sub_set_self
  obtain ⟨hp, g, d, tk, os⟩ := s
  dsimp only
  wp_walk
  refine wpAny_askSetting (wpAny_pure ?_)
  dsimp only
  simp only [newObj]
  refine wpAny_bind (wpAny_alloc (wpAny_pure ?_))
  exact wpAny_pure h
theorem empty_at (h : Heap) (S : Addr) (g : h.get? S = some (set0 w)) : SetAt prog w h S (set0 w) #[] 0 (.fresh 0 0 (!w.params.followText "set-order")) [] where
  get := g
  ex := ⟨rfl, rfl, rfl⟩
  data := rfl
  ents := rfl
  tab := ⟨.inl rfl, rfl, ⟨fun a b ha => absurd ha (by show ¬ a < 0; omega)⟩, rfl, (fun x hx => nomatch hx), (fun i j h' hj => by have : ([] : List Nat)[i]? = some j := hj; simp at this)⟩
  room := by show 0 * 5 < 7 * 3; decide
  plain := rfl
  keys := fun q hq => nomatch hq
  nd := List.nodup_nil
set_option maxHeartbeats 8000000 in
theorem call_set {l : Addr} {items : Array Value} {ks : List (List Int)} (Z : List Int → Addr → Prop) {Q : Value → Shared → Prop} (hu : A.units + 8 < cLine)
    (hh : A.handled = none) (hl : s.heap.IsList l items) (hlen : items.size = ks.length) (hi : ∀ i v, items[i]? = some v → ∃ p, v = .ref p ∧ IsT prog w s.heap (ks.getD i []) p ∧ Z (ks.getD i []) p) (hb : items.size < 60)
    (h : ∀ (h' : Heap) (tk : Nat) o es ep t ps, SetAt prog w h' s.heap.objs.size o es ep t ps → t.led = (!w.params.followText "set-order") → (∀ q ∈ ps, Z q.1 q.2) → (∀ k', k' ∈ ps.map (·.1) ↔ k' ∈ ks) → ps.length ≤ ks.length →
      (∀ b ob, b < s.heap.objs.size → s.heap.get? b = some ob → h'.get? b = some ob) → Q (.ref s.heap.objs.size) { s with heap := h', toks := tk }) :
    wpAny (model prog w) A (call (.type "set") [.ref l]) Q E s := by
  obtain ⟨c, tl, hmro⟩ := PySem.F.called_set.mro
  have hmade := PySem.F.called_set.made
  have hsub := PySem.F.called_set.sub
  refine wpAny_call (codeAny_of_tree ?_)
  show wpAny _ _ (callAny (.type "set") _) _ _ _
  refine wpAny_pure ⟨Code.quiet_builtin _ (by decide +kernel), codeAny_builtin PySem.F.entry_type_call ?_⟩
  rw [Around.under_plain (weight_type_call_type "set" [.ref l] []) rfl]
  have h1 := PySem.F.called_set.notType
  have h2 := PySem.F.called_set.canCreate
  have hct := PySem.F.typeCall_set_1 (.ref l)
  repeat (any_goals (first | assumption | wp_step))
  refine codeAny_mono (new_set (.ref l) (E := E) (Q₁ := fun obj s₁ => obj = .ref s.heap.objs.size ∧ s₁ = { s with heap := s.heap.push (set0 w) }) ⟨rfl, rfl⟩) fun r s₁ hr => ?_
  cases r with
  | error e => exact hr
  | ok fl =>
    cases fl with
    | ret obj =>
      obtain ⟨rfl, rfl⟩ := hr
      have hS : (s.heap.push (set0 w)).get? s.heap.objs.size = some (set0 w) := Heap.get?_push_size _ rfl
      have hT : Shared.TypeIs { s with heap := s.heap.push (set0 w) } (.ref s.heap.objs.size) "set" := ⟨_, hS, rfl⟩
      have hli := PySem.F.called_set.init.lookup
      have hbi := PySem.F.called_set.init.bind (.ref s.heap.objs.size)
      repeat (any_goals (first | assumption | wp_step))
      refine codeAny_mono (codeAny_call_builtin (R := wants (fun r s₂ => r = .none ∧ ∃ h' tk o es ep t ps, s₂ = { s with heap := h', toks := tk } ∧ SetAt prog w h' s.heap.objs.size o es ep t ps ∧ t.led = (!w.params.followText "set-order") ∧ (∀ q ∈ ps, Z q.1 q.2) ∧ (∀ k', k' ∈ ps.map (·.1) ↔ k' ∈ ks) ∧ ps.length ≤ ks.length ∧
          (∀ b ob, b < s.heap.objs.size → s.heap.get? b = some ob → h'.get? b = some ob)) E) PySem.F.called_set.init.plain PySem.F.entry_set_init (check_set_init_1 hT ?_)) fun r₂ s₂ hr₂ => ?_
      · obtain ⟨ol, hol, hcl, nl, hdl⟩ := hl
        obtain ⟨ocls, odict, odata, oslots⟩ := ol
        simp only at hcl hdl
        subst hcl; subst hdl
        have hol' : (s.heap.push (set0 w)).get? l = some { cls := .type "list", dict := odict, data := .seq items nl, slots := oslots } := Heap.get?_push_of_some _ hol
        have hsls := PySem.F.sub_list_set
        have hslf := PySem.F.sub_list_frozenset
        have hne : (Value.type "list" == Value.type "dict") = false := by decide
        have hl1 : (s.heap.push (set0 w)).IsList l items := ⟨_, hol', rfl, nl, rfl⟩
        unfold Builtin.«set.__init__» noKeywords Builtin.Frozenset.updateFrom
        generalize hPI : pyIter = PI
        wp_walk
        subst hPI
        refine wpAny_pyIter_list hl1 ?_
        refine wpAny_bind (wpAny_runValue ?_)
        have hlS : l < s.heap.objs.size := Heap.lt_size hol
        have hh3 : A.in1.in1.in1.handled = none := by simp [hh]
        have hneI : l ≠ (s.heap.push (set0 w)).objs.size := by
          rw [Heap.size_push]; exact Nat.ne_of_lt (Nat.lt_succ_of_lt hlS)
        have hSf : s.heap.objs.size ∉ [(s.heap.push (set0 w)).objs.size, l] := by
          rw [Heap.size_push]; simp only [List.mem_cons, List.not_mem_nil, or_false, not_or]
          exact ⟨Nat.ne_of_lt (Nat.lt_succ_self _), Nat.ne_of_gt hlS⟩
        have hu3 : A.in1.in1.in1.units < cLine := by
          rw [units_in1, units_in1, units_in1]; omega
        refine upd_loop (A := A.in1.in1) ((Walks.list hh3 _ l hneI items).toS) s.heap.objs.size hSf s.heap (fun i => ks.getD i []) Z hu3 (fun i v hv => ?hkey) hb (!w.params.followText "set-order") (items.size - 0) 0 _ _ _ _ _ [] rfl (Nat.zero_le _)
          ⟨⟨_, Heap.get?_push_size _ rfl, rfl, rfl⟩, (hl1.push _)⟩ ?hpr (empty_at _ _ (Heap.get?_push_of_some _ hS)) rfl (fun q hq => nomatch hq) (fun k' => ?hm0) (Nat.le_refl _) ?hR
        case hkey =>
          obtain ⟨p, e, hp, hz⟩ := hi i v hv
          refine ⟨p, e, ?_, hp, hz⟩
          obtain ⟨ob, _, _, ho, _⟩ := hp
          have := Heap.lt_size ho
          rw [Heap.size_push]
          simp only [List.mem_cons, List.not_mem_nil, or_false, not_or]
          exact ⟨Nat.ne_of_lt this, Nat.ne_of_lt (Nat.lt_succ_of_lt this)⟩
        case hpr => exact fun b ob _ e => Heap.get?_push_of_some _ (Heap.get?_push_of_some _ e)
        case hm0 =>
          constructor
          · intro z; cases z
          · rintro ⟨j, hj, _⟩; omega
        case hR =>
          intro s' o es ep t ps hm hS' hld hq hmem hln
          obtain ⟨h', g', d', tk', os'⟩ := s'
          have eg : g' = s.gens := hm.gens
          have ed : d' = s.drawn := hm.drawn
          have eo : os' = s.os := hm.os
          subst eg; subst ed; subst eo
          show wpAny _ _ _ _ _ _
          refine wpAny_pure ?_
          show wpAny _ _ (ret Value.none) _ _ _
          refine wpAny_pure ⟨rfl, h', tk', o, es, ep, t, ps, rfl, hS', hld, fun q hq' => (hq q hq').2.2, fun k' => ?_, by omega, fun b ob hb e => ?_⟩
          · rw [hmem k']
            constructor
            · rintro ⟨j, hj, rfl⟩
              have hj' : j < ks.length := by omega
              simp [List.getD, hj']
            · intro hk
              obtain ⟨j, hj⟩ := List.getElem?_of_mem hk
              have := (List.getElem?_eq_some_iff.mp hj).1
              exact ⟨j, by omega, by simp [List.getD, hj]⟩
          · have hb1 : b ≠ s.heap.objs.size := Nat.ne_of_lt hb
            have hb2 : b ≠ (s.heap.push (set0 w)).objs.size := by
              rw [Heap.size_push]; exact Nat.ne_of_lt (Nat.lt_succ_of_lt hb)
            exact hm.heap b ob (by simp only [List.mem_cons, List.not_mem_nil, or_false, not_or]; exact ⟨hb1, hb2⟩) (Heap.get?_push_of_some _ (Heap.get?_push_of_some _ e))
      · cases r₂ with
        | error e => exact hr₂
        | ok fl₂ =>
          cases fl₂ with
          | ret r =>
            obtain ⟨rfl, h', tk, o, es, ep, t, ps, rfl, a1, a2, a3, a4, a5, a6⟩ := hr₂
            repeat (any_goals (first | assumption | wp_step))
            exact h _ _ _ _ _ _ _ a1 a2 a3 a4 a5 a6
          | _ => exact hr₂.elim
    | _ => exact hr.elim
end
end TS

set_option Elab.async false
set_option linter.all false
set_option maxRecDepth 100000
set_option maxHeartbeats 4000000
namespace TS
open PySem PySem.SetTable PyProof.Rows PySem.W
theorem own_si : Manifest.owners.lookup (String.ofList ['r', 'o', 't', 'a', 'r', 'e', 't', 'i', '_', 't', 'e', 's'].reverse) = some Manifest.sig_set_iterator := by kernel_rfl
theorem slot_si_next : Slot "set_iterator" "__next__" "set_iterator.__next__" :=
  .of (owner := "set_iterator") (n := "__next__") (by rw [typeLookup_type, builtinLookup_eq_fast]; kernel_rfl) (by decide +kernel) (by decide +kernel) (by decide +kernel)
    (by first | exact .inl (by decide +kernel) | exact .inr (by decide +kernel)) (by rw [isSubtype_type]; kernel_rfl)
theorem entry_si_next : entryFor table "set_iterator.__next__" = some Builtin.«set_iterator.__next__» := entryFor_of_tree (by kernel_rfl)
theorem args_si_next (a : Value) : argsOk "set_iterator.__next__" ⟨[a], []⟩ := by
  unfold argsOk; rw [signature?_of (id := "set_iterator.__next__") (n := ['_', '_', 't', 'x', 'e', 'n', '_', '_']) (o := ['r', 'o', 't', 'a', 'r', 'e', 't', 'i', '_', 't', 'e', 's']) (by kernel_rfl) own_si]; kernel_rfl
theorem slot_si_iter : Slot "set_iterator" "__iter__" "set_iterator.__iter__" :=
  .of (owner := "set_iterator") (n := "__iter__") (by rw [typeLookup_type, builtinLookup_eq_fast]; kernel_rfl) (by decide +kernel) (by decide +kernel) (by decide +kernel)
    (by first | exact .inl (by decide +kernel) | exact .inr (by decide +kernel)) (by rw [isSubtype_type]; kernel_rfl)
theorem args_si_iter (a : Value) : argsOk "set_iterator.__iter__" ⟨[a], []⟩ := by
  unfold argsOk; rw [signature?_of (id := "set_iterator.__iter__") (n := ['_', '_', 'r', 'e', 't', 'i', '_', '_']) (o := ['r', 'o', 't', 'a', 'r', 'e', 't', 'i', '_', 't', 'e', 's']) (by kernel_rfl) own_si]; kernel_rfl
theorem entry_si_iter : entryFor table "set_iterator.__iter__" = some Builtin.«dict_keyiterator.__iter__» :=
  entryFor_alias (id' := "dict_keyiterator.__iter__") (by kernel_rfl) (by first | rfl | decide +kernel | (unfold String.splitOn; simp +decide [String.splitOnAux])) (by decide +kernel) (by kernel_rfl)
theorem entry_set_iter : entryFor table "set.__iter__" = some Builtin.«frozenset.__iter__» :=
  entryFor_alias (id' := "frozenset.__iter__") (by kernel_rfl) (by first | rfl | decide +kernel | (unfold String.splitOn; simp +decide [String.splitOnAux])) (by decide +kernel) (by kernel_rfl)
theorem erase_perm {α : Type} : ∀ (l : List α) (i : Nat) (h : i < l.length), (l[i] :: l.eraseIdx i).Perm l
  | a :: r, 0, _ => List.Perm.refl _
  | a :: r, i + 1, h => by
    have ih := erase_perm r i (by simpa using h)
    show (r[i]'(by simpa using h) :: a :: r.eraseIdx i).Perm (a :: r)
    exact (List.Perm.swap _ _ _).trans (ih.cons a)
theorem pick_perm {α : Type} (next : Nat → Nat) : ∀ (fuel k : Nat) (left : List α) (out : Array α), left.length ≤ fuel → (pickOrder.go next fuel k left out).toList.Perm (out.toList ++ left)
  | 0, k, left, out, h => by
    have : left = [] := List.eq_nil_of_length_eq_zero (by omega)
    subst this
    unfold pickOrder.go
    simp
  | fuel + 1, k, left, out, h => by
    unfold pickOrder.go
    cases e : left[next k % left.length]? with
    | none =>
      have : left = [] := by
        cases left with
        | nil => rfl
        | cons a r =>
          have := Nat.mod_lt (next k) (show 0 < (a :: r).length by simp)
          rw [List.getElem?_eq_getElem this] at e
          cases e
      subst this
      simp
    | some x =>
      obtain ⟨hi, ex⟩ := List.getElem?_eq_some_iff.mp e
      have hl : (left.eraseIdx (next k % left.length)).length ≤ fuel := by rw [List.length_eraseIdx_of_lt hi]; omega
      have p := pick_perm next fuel (k + 1) (left.eraseIdx (next k % left.length)) (out.push x) hl
      refine p.trans ?_
      rw [Array.toList_push, List.append_assoc]
      refine List.Perm.append_left _ ?_
      have := erase_perm left _ hi
      rw [ex] at this
      exact this
theorem pick_all {α : Type} (next : Nat → Nat) (xs : Array α) : (pickOrder next xs).toList.Perm xs.toList := by
  have := pick_perm next xs.size 0 xs.toList #[] (by simp)
  simpa [pickOrder] using this
section
variable {prog : Program} {w : World} {A : Around} {E : Value → Shared → Prop} {s : Shared}
variable {a : Addr} {o : Obj} {es : Array (Int × Value)} {ep : Nat} {t : SetTable} {ps : List (List Int × Addr)}
structure SetIt (prog : Program) (w : World) (h : Heap) (a : Addr) (o : Obj) (es : Array (Int × Value)) (ep : Nat) (t : SetTable) (ps : List (List Int × Addr)) : Prop where
  get : h.get? a = some o
  ex : o.ExactSet
  data : o.data = .set es ep t
  size : es.size = ps.length
  tab : TOk t (ps.map fun q => hT prog w q.1)
  fits : t.fits es.size = true
  plain : t.plain = true
theorem SetAt.it (S : SetAt prog w s.heap a o es ep t ps) : SetIt prog w s.heap a o es ep t ps := ⟨S.get, S.ex, S.data, S.size, S.tab, S.fits, S.plain⟩
theorem SetIt.at {h h' : Heap} (S : SetIt prog w h a o es ep t ps) (e : ∀ ob, h.get? a = some ob → h'.get? a = some ob) : SetIt prog w h' a o es ep t ps := ⟨e _ S.get, S.ex, S.data, S.size, S.tab, S.fits, S.plain⟩
noncomputable def itObj (sl i : Nat) (a : Addr) (n ep : Nat) : Obj := { cls := .type "set_iterator", data := .fields #[rawInt sl, rawInt i, .ref a, rawInt n, rawInt ep] }
theorem iter_wp (S : SetIt prog w s.heap a o es ep t ps) {Q : Value → Shared → Prop} (h : Q (.ref s.heap.objs.size) { s with heap := s.heap.push (itObj 0 0 a es.size ep) }) : wpAny (model prog w) A (pyIter (.ref a)) Q E s := by
  have hT : s.TypeIs (.ref a) "set" := ⟨o, S.get, S.ex.1⟩
  refine wpAny_pyIter_slot hT PySem.F.slot_set_iter (wpAny_call_entry PySem.F.slot_set_iter hT entry_set_iter ?_ (PySem.F.args_set_iter_1 _))
  unfold Builtin.«frozenset.__iter__» Builtin.Frozenset.slot0 Builtin.Frozenset.sizeOf setDrawn
  refine wpAny_bind (wpAny_bind (wpAny_of_eq (a := (Value.ref a, [])) rfl ?_))
  refine wpAny_of_eq (a := a) rfl ?_
  refine wpAny_bind (wpAny_bind (wpAny_setEntries_of S.get S.data S.fits (wpAny_pure ?_)))
  refine wpAny_bind (wpAny_bind (wpAny_setState_of S.get S.data S.fits ?_))
  dsimp only
  unfold setsByText
  refine wpAny_bind (wpAny_bind (wpAny_askSetting (wpAny_pure (wpAny_pure ?_))))
  rw [if_neg (by show ¬ ((!_ && (!t.plain && _)) = true); rw [S.plain]; simp)]
  refine wpAny_bind (wpAny_pure ?_)
  refine wpAny_bind (wpAny_setEpoch_of S.get S.data S.fits ?_)
  unfold newFields
  refine wpAny_bind (wpAny_newObj_type ?_ (by size_fits))
  exact wpAny_pure ⟨_, rfl, "set_iterator", _, ⟨_, Heap.get?_push_size _ rfl, rfl⟩, slot_si_next.lookup, h⟩
end
end TS

set_option Elab.async false
set_option linter.all false
set_option maxRecDepth 100000
set_option maxHeartbeats 4000000
namespace TS
open PySem PySem.SetTable PyProof.Rows PySem.W
section
variable {prog : Program} {w : World} {A : Around} {E : Value → Shared → Prop} {s : Shared}
variable {a it : Addr} {o : Obj} {es : Array (Int × Value)} {ep : Nat} {t : SetTable} {ps : List (List Int × Addr)}
noncomputable def walked (w : World) (a : Addr) (ep : Nat) (es : Array (Int × Value)) : Array (Int × Value) := if w.params.followText "set-order" = true then pickOrder (w.params.setOrder a ep) es else es
theorem walked_perm : (walked w a ep es).toList.Perm es.toList := by
  unfold walked
  split
  · exact pick_all _ _
  · exact List.Perm.refl _
theorem below_next (T : Inc t.place) {i j : Nat} (h : t.place[i]? = some j) : SetTable.below t.place (j + 1) = i + 1 := by
  obtain ⟨hi, e⟩ := Array.getElem?_eq_some_iff.mp h
  obtain ⟨b1, b2, b3⟩ := T.below (j + 1)
  have h1 : i < SetTable.below t.place (j + 1) := Nat.lt_of_not_le fun z => by have := b3 i hi z; omega
  by_cases z : i + 1 < SetTable.below t.place (j + 1)
  · have h2 := b2 (i + 1) (by omega) z
    have h3 := T.lt i (i + 1) hi (by omega) (by omega)
    omega
  · omega
theorem setNext_wp (S : SetIt prog w s.heap a o es ep t ps) (hld : t.led = (!w.params.followText "set-order")) {sl i : Nat} (hsl : SetTable.below t.place sl = i ∨ w.params.followText "set-order" = true)
    {Q : Option (Value × Nat) → Shared → Prop} (h1 : ∀ e sl', (walked w a ep es)[i]? = some e → (SetTable.below t.place sl' = i + 1 ∨ w.params.followText "set-order" = true) → Q (some (e.2, sl')) s) (h2 : (walked w a ep es)[i]? = none → Q none s) :
    wpAny (model prog w) A (setNext a sl i ep) Q E s := by
  unfold setNext
  refine wpAny_bind (wpAny_setState_of S.get S.data S.fits ?_)
  dsimp only
  unfold setsByText
  refine wpAny_bind (wpAny_bind (wpAny_askSetting (wpAny_pure ?_)))
  dsimp only
  cases hb : w.params.followText "set-order" with
  | true =>
    have hw : walked w a ep es = pickOrder (w.params.setOrder a ep) es := by unfold walked; rw [if_pos hb]
    rw [if_pos (show (model prog w).w.params.followText "set-order" = true from hb)]
    rw [if_neg (by simp)]
    refine wpAny_bind ?_
    unfold setWalk
    refine wpAny_bind (wpAny_setState_of S.get S.data S.fits ?_)
    dsimp only
    unfold setsByText
    refine wpAny_bind (wpAny_bind (wpAny_askSetting (wpAny_pure ?_)))
    dsimp only
    rw [if_pos (show (model prog w).w.params.followText "set-order" = true from hb)]
    refine wpAny_bind (wpAny_askSetting (wpAny_pure (wpAny_pure ?_)))
    dsimp only
    rw [hw] at h1 h2
    cases e : (pickOrder (w.params.setOrder a ep) es)[i]? with
    | none =>
      have : (pickOrder ((model prog w).w.params.setOrder a ep) es)[i]? = none := e
      rw [this]
      exact h2 e
    | some x =>
      have : (pickOrder ((model prog w).w.params.setOrder a ep) es)[i]? = some x := e
      rw [this]
      exact h1 x sl e (.inr hb)
  | false =>
    have hw : walked w a ep es = es := by unfold walked; rw [if_neg (by rw [hb]; simp)]
    rw [if_neg (show ¬ (model prog w).w.params.followText "set-order" = true by show ¬ w.params.followText "set-order" = true; rw [hb]; simp)]
    rw [if_neg (by show ¬ ((!t.plain && _) = true); rw [S.plain]; simp)]
    have hl : t.led = true := by rw [hld, hb]; rfl
    have hbel : SetTable.below t.place sl = i := by
      rcases hsl with z | z
      · exact z
      · rw [hb] at z; cases z
    refine wpAny_bind ?_
    show wpAny _ _ (if (!t.led && !es.isEmpty) = true then _ else _) _ _ s
    rw [if_neg (by rw [hl]; simp)]
    refine wpAny_pure (wpAny_pure ?_)
    rw [hbel]
    rw [hw] at h1 h2
    have hlen : t.place.size = es.size := by rw [S.tab.len, List.length_map, S.size]
    cases e : es[i]? with
    | none => exact h2 e
    | some x =>
      obtain ⟨hi, _⟩ := Array.getElem?_eq_some_iff.mp e
      have ej : t.place[i]? = some (t.place[i]'(by omega)) := Array.getElem?_eq_getElem (by omega)
      rw [ej]
      exact h1 x _ e (.inl (below_next S.tab.inc ej))
theorem next_wp (S : SetIt prog w s.heap a o es ep t ps) (hld : t.led = (!w.params.followText "set-order")) {sl i : Nat} (hit : s.heap.get? it = some (itObj sl i a es.size ep)) (hi : i < es.size) (hsl : SetTable.below t.place sl = i ∨ w.params.followText "set-order" = true)
    {Q : Option Value → Shared → Prop} (h : ∀ v h' sl', ((walked w a ep es)[i]?).map (·.2) = some v → h'.get? it = some (itObj sl' (i + 1) a es.size ep) → (SetTable.below t.place sl' = i + 1 ∨ w.params.followText "set-order" = true) → Heap.SameBut it s.heap h' → Q (some v) { s with heap := h' }) :
    wpAny (model prog w) A (pyNext (.ref it)) Q E s := by
  have hT : s.TypeIs (.ref it) "set_iterator" := ⟨_, hit, rfl⟩
  unfold pyNext
  refine wpAny_bind (wpAny_attempt (wpAny_callSpecial?_slot (name := Str.ofString "__next__") hT slot_si_next (wpAny_call_entry slot_si_next hT entry_si_next ?_ (args_si_next _))))
  unfold Builtin.«set_iterator.__next__»
  refine wpAny_bind (wpAny_of_eq (a := (Value.ref it, [])) rfl ?_)
  refine wpAny_bind (wpAny_fieldsOf hit rfl ?_)
  dsimp only
  refine wpAny_bind (wpAny_setEntries_of S.get S.data S.fits ?_)
  rw [if_neg (by simp)]
  show wpAny _ _ (setNext a sl i ep >>= _) _ _ s
  have hiw : i < (walked w a ep es).size := by
    have := (walked_perm (w := w) (a := a) (ep := ep) (es := es)).length_eq
    simp only [Array.length_toList] at this
    omega
  refine wpAny_bind (setNext_wp S hld hsl (fun e sl' he hs => ?_) fun z => by rw [Array.getElem?_eq_getElem hiw] at z; cases z)
  dsimp only
  have hne : it ≠ a := fun z => by
    subst z
    rw [S.get] at hit
    cases hit
    have := S.data
    cases this
  refine wpAny_bind (wpAny_setField_rec hit (by simp) fun h1 g1 sb1 => ?_)
  refine wpAny_bind (wpAny_setField_rec (s := { s with heap := h1 }) g1 (by simp) fun h2 g2 sb2 => ?_)
  refine wpAny_pure ⟨e.2, rfl, wpAny_pure (h e.2 h2 sl' (by rw [he]; rfl) g2 hs (sb1.trans sb2))⟩
theorem end_wp (hh : A.handled = none) (S : SetIt prog w s.heap a o es ep t ps) (hld : t.led = (!w.params.followText "set-order")) {sl : Nat} (hit : s.heap.get? it = some (itObj sl es.size a es.size ep)) (hsl : SetTable.below t.place sl = es.size ∨ w.params.followText "set-order" = true)
    {Q : Option Value → Shared → Prop} (h : ∀ h', Heap.ExtBut it s.heap h' → Q none { s with heap := h' }) :
    wpAny (model prog w) A (pyNext (.ref it)) Q E s := by
  have hT : s.TypeIs (.ref it) "set_iterator" := ⟨_, hit, rfl⟩
  unfold pyNext
  refine wpAny_bind (wpAny_attempt (wpAny_callSpecial?_slot (name := Str.ofString "__next__") hT slot_si_next (wpAny_call_entry slot_si_next hT entry_si_next ?_ (args_si_next _))))
  unfold Builtin.«set_iterator.__next__»
  refine wpAny_bind (wpAny_of_eq (a := (Value.ref it, [])) rfl ?_)
  refine wpAny_bind (wpAny_fieldsOf hit rfl ?_)
  dsimp only
  refine wpAny_bind (wpAny_setEntries_of S.get S.data S.fits ?_)
  rw [if_neg (by simp)]
  show wpAny _ _ (setNext a sl es.size ep >>= _) _ _ s
  have hiw : (walked w a ep es).size = es.size := by
    have := (walked_perm (w := w) (a := a) (ep := ep) (es := es)).length_eq
    simpa using this
  refine wpAny_bind (setNext_wp S hld hsl (fun e sl' he hs => by have := (Array.getElem?_eq_some_iff.mp he).1; omega) fun z => ?_)
  dsimp only
  refine wpAny_bind (wpAny_setField_rec hit (by simp) fun h1 g1 sb1 => ?_)
  simp only [newExc, newTuple]
  refine wpAny_bind ?_
  refine wpAny_bind (wpAny_newObj_type ?_ (by size_fits))
  refine wpAny_bind (m := firstArgMember _ _) (wpAny_of_eq (a := Value.none) (by first | rfl | (simp only [firstArgMember]; rfl)) ?_)
  refine wpAny_newObj_type ?_ (by size_fits)
  simp only [raiseNew]
  refine wpAny_bind (wpAny_handled ?_)
  rw [show A.in1.handled = none from hh]
  refine wpAny_bind (wpAny_pure (wpAny_throw ?_))
  refine wpAny_bind (wpAny_isInstance (T := "StopIteration") (b := true) ⟨_, Heap.get?_push_size _ rfl, rfl⟩ isSubtype_stop ?_)
  exact wpAny_pure (h _ ((sb1.extBut.push _).push _))
noncomputable def StS (prog : Program) (w : World) (it a : Addr) (o : Obj) (es : Array (Int × Value)) (ep : Nat) (t : SetTable) (ps : List (List Int × Addr)) (i : Nat) (h : Heap) : Prop :=
  ∃ sl, h.get? it = some (itObj sl i a es.size ep) ∧ (SetTable.below t.place sl = i ∨ w.params.followText "set-order" = true) ∧ SetIt prog w h a o es ep t ps
theorem walks_set (hh : A.handled = none) (hne : it ≠ a) (hld : t.led = (!w.params.followText "set-order")) :
    Walks prog w A it [it, a] [it] es.size (fun i v => ((walked w a ep es)[i]?).map (·.2) = some v) (StS prog w it a o es ep t ps) where
  sub := fun b hb => by simp at hb; simp [hb]
  frame := fun i h h' ⟨sl, g, hs, S⟩ hk => ⟨sl, hk it (by simp) _ g, hs, S.at fun ob e => hk a (by simp) ob e⟩
  item := fun i s Q E hi ⟨sl, g, hs, S⟩ hQ => by
    refine next_wp S hld g hi hs fun v h' sl' hv g' hs' sb => ?_
    exact hQ v h' s.toks hv ⟨sl', g', hs', S.at fun ob e => (sb.2 a (Ne.symm hne)).trans e⟩ fun b ob hb e => (sb.2 b (fun z => hb (by simp [z]))).trans e
  done := fun s Q E ⟨sl, g, hs, S⟩ hQ => end_wp hh S hld g hs fun h' he => hQ h' s.toks fun b ob hb e => he b ob (fun z => hb (by simp [z])) e
  self := fun i s Q E ⟨sl, g, hs, S⟩ hQ => by
    have hT : s.TypeIs (.ref it) "set_iterator" := ⟨_, g, rfl⟩
    refine wpAny_pyIter_slot hT slot_si_iter (wpAny_call_entry slot_si_iter hT entry_si_iter ?_ (args_si_iter _))
    show wpAny _ _ (ret (.ref it)) _ _ s
    exact wpAny_pure ⟨_, rfl, "set_iterator", _, hT, slot_si_next.lookup, hQ⟩
theorem hint_set (hT : s.TypeIs (.ref a) "set") {Q : Bool → Shared → Prop} (h : Q false s) : wpAny (model prog w) A (Builtin.List.listLengthHint (.ref a)) Q E s := by
  unfold Builtin.List.listLengthHint
  refine wpAny_bind (wpAny_specialOf hT PySem.F.slot_set_len.lookup ?_)
  generalize hid : ("set.__len__" : String) = id0
  wp_delta
  rw [show splitId id0 = some ("set", "__len__") from by subst hid; decide +kernel]
  subst hid
  refine wpAny_bind (wpAny_isInstance (T := "set") (b := true) hT (by rw [isSubtype_type]; kernel_rfl) ?_)
  refine wpAny_ite_split (fun hab => absurd hab (by decide)) (fun _ => ?_)
  refine wpAny_ite_split (fun _ => ?_) (fun hab => absurd (by decide +kernel) hab)
  refine wpAny_bind (wpAny_typeOf hT ?_)
  exact wpAny_pure h
theorem below_0 (T : Inc t.place) : SetTable.below t.place 0 = 0 := by
  obtain ⟨b1, b2, b3⟩ := T.below 0
  by_cases z : SetTable.below t.place 0 = 0
  · exact z
  · have := b2 0 (by omega) (by omega)
    omega
theorem src_set (hld : t.led = (!w.params.followText "set-order")) : KdlSrc prog w "set" a a es.size (fun i v => ((walked w a ep es)[i]?).map (·.2) = some v) (fun h => SetIt prog w h a o es ep t ps) where
  type := fun s S => ⟨o, S.get, S.ex.1⟩
  there := fun h S => ⟨Heap.lt_size S.get, Heap.lt_size S.get⟩
  keep := fun h h' S hk => S.at fun ob e => hk a (.inl rfl) ob e
  notList := by decide
  notTuple := by decide
  hint := fun A E s Q S hq => hint_set ⟨o, S.get, S.ex.1⟩ hq
  iter := fun A s hh S => ⟨itObj 0 0 a es.size ep, StS prog w s.heap.objs.size a o es ep t ps, fun E Q hq => iter_wp S hq, walks_set hh (Nat.ne_of_gt (Heap.lt_size S.get)) hld,
    ⟨0, Heap.get?_push_size _ rfl, .inl (below_0 S.tab.inc), S.at fun ob e => Heap.get?_push_of_some _ e⟩⟩
end
end TS

set_option Elab.async false
set_option linter.all false
set_option maxRecDepth 100000
set_option maxHeartbeats 4000000
namespace M
open PySem PySem.W PySem.Spec PyProof.Rows L2 PySem.Calls TS
noncomputable def dd : List (List Int) → List (List Int)
  | [] => []
  | k :: r => if k ∈ dd r then dd r else k :: dd r
theorem dd_mem : ∀ (ks : List (List Int)) (k : List Int), k ∈ dd ks ↔ k ∈ ks
  | [], k => Iff.rfl
  | a :: r, k => by
    unfold dd
    by_cases h : a ∈ dd r
    · rw [if_pos h, dd_mem r k, List.mem_cons]
      constructor
      · exact .inr
      · rintro (z | z)
        · subst z; exact (dd_mem r k).1 h
        · exact z
    · rw [if_neg h, List.mem_cons, List.mem_cons, dd_mem r k]
theorem dd_nodup : ∀ ks : List (List Int), (dd ks).Nodup
  | [] => List.nodup_nil
  | a :: r => by
    unfold dd
    by_cases h : a ∈ dd r
    · rw [if_pos h]; exact dd_nodup r
    · rw [if_neg h]; exact List.nodup_cons.2 ⟨h, dd_nodup r⟩
theorem nodup_perm {α : Type} [DecidableEq α] : ∀ (a b : List α), a.Nodup → b.Nodup → (∀ x, x ∈ a ↔ x ∈ b) → a.Perm b
  | [], b, _, _, h => by
    cases b with
    | nil => exact List.Perm.nil
    | cons x r => exact absurd ((h x).2 (by simp)) (by simp)
  | x :: a, b, ha, hb, h => by
    rw [List.nodup_cons] at ha
    have hx : x ∈ b := (h x).1 (by simp)
    refine (List.Perm.cons x (nodup_perm a (b.erase x) ha.2 (hb.erase x) fun y => ?_)).trans (List.perm_cons_erase hx).symm
    rw [hb.mem_erase_iff, ← h y, List.mem_cons]
    constructor
    · exact fun z => ⟨fun e => ha.1 (e ▸ z), .inr z⟩
    · rintro ⟨z1, z2 | z2⟩
      · exact absurd z2 z1
      · exact z2
theorem sort_same {a b : List (List Int)} (p : a.Perm b) : sortK a = sortK b := sortK_unique (sortK_asc a) ((sortK_perm a).trans p)
structure SetOk (prog : Program) (w : World) (H : Hp) (es : Array (Int × Value)) (t : SetTable) (ps : List (List Int × Addr)) (ks : List (List Int)) : Prop where
  led : t.led = (!w.params.followText "set-order")
  ents : es.toList = ps.map (ent prog w)
  keys : ∀ q ∈ ps, H q.2 = some (.tup (q.1.map V.int))
  mem : ∀ k, k ∈ ps.map (·.1) ↔ k ∈ ks
  nd : (ps.map (·.1)).Nodup
  len : ps.length ≤ ks.length
noncomputable def rSet (P : Program) (w : World) (K : PySem.W.Frag) : List V → Hp → VK → Prop := fun xs H Q => ∃ (l : Addr) (vs : List V) (ks : List (List Int)), xs = [.ref l] ∧ SqL K H l vs ∧ Paired (TupAt H) vs ks ∧ ks.length < 60 ∧
  ∀ a o es ep t ps, H a = none → SetOk P w H es t ps ks → Q (.ref a) (upd H a (.ext fun h => SetIt P w h a o es ep t ps))
noncomputable def rSortS (P : Program) (w : World) : List V → Hp → VK → Prop := fun xs H Q => ∃ a o es ep t ps ks, xs = [.ref a] ∧ H a = some (.ext fun h => SetIt P w h a o es ep t ps) ∧ SetOk P w H es t ps ks ∧ ks.length < 60 ∧ (∀ k ∈ ks, k ≠ []) ∧
  ∀ l outs, H l = none → Paired (TupAt H) outs (sortK (dd ks)) → Q (.ref l) (upd H l (.lst outs))
theorem paired_at {α β : Type} {R : α → β → Prop} : ∀ {xs : List α} {ys : List β}, Paired R xs ys → ∀ (i : Nat) (x : α), xs[i]? = some x → ∃ y, ys[i]? = some y ∧ R x y
  | _, _, .nil, i, x, h => by simp at h
  | _, _, .cons r t, 0, x, h => by
    simp at h; subst h
    exact ⟨_, rfl, r⟩
  | _, _, .cons r t, i + 1, x, h => by
    have := paired_at t i x (by simpa using h)
    simpa using this
theorem paired_len {α β : Type} {R : α → β → Prop} : ∀ {xs : List α} {ys : List β}, Paired R xs ys → xs.length = ys.length
  | _, _, .nil => rfl
  | _, _, .cons _ t => by simp [paired_len t]
theorem items_are {prog : Program} {w : World} : ∀ {k : List Int} {its : List Value}, Vals (k.map V.int) its → ItemsAre (intKind prog w) k its
  | [], _, h => by cases h; exact .nil
  | n :: r, _, h => by
    cases h with
    | cons h1 h2 =>
      obtain ⟨tk, rfl⟩ := h1
      exact .cons (intKind_is _ _ _ _) (items_are h2)
section
variable {X : Cx}
theorem call_setS (gd : Gd X) : CallR X (.type "set") (rSet X.prog X.w X.K) := by
  intro pins s σ H xs us Q I r h
  obtain ⟨l, vs, ks, rfl, hl, pk, h60, q⟩ := h
  obtain ⟨u, rfl, ru⟩ := vals1 r
  cases ru
  obtain ⟨its, vr, pl, _⟩ := I.list hl
  have hlen : its.toArray.size = ks.length := by rw [List.size_toArray, ← vr.length, paired_len pk]
  have hh : X.A.handled = none := I.ok.hd gd.calm
  have key : ∀ i v, its.toArray[i]? = some v → ∃ p, v = .ref p ∧ IsT X.prog X.w s.heap (ks.getD i []) p ∧ H p = some (.tup ((ks.getD i []).map V.int)) := fun i v hv => by
    have hv : its[i]? = some v := by simpa using hv
    have hi := (List.getElem?_eq_some_iff.mp hv).1
    have hi' : i < vs.length := by rw [vr.length]; exact hi
    obtain ⟨k, ek, p, e1, e2⟩ := paired_at pk i _ (List.getElem?_eq_getElem hi')
    obtain ⟨u, eu, ru⟩ := vr.get (List.getElem?_eq_getElem hi')
    rw [hv] at eu
    cases eu
    rw [e1] at ru
    cases ru
    have eg : ks.getD i [] = k := by simp [List.getD, ek]
    rw [eg]
    obtain ⟨jt, wr, ⟨ob, g1, g2, n, g3⟩, _⟩ := I.tuple (SqT.of e2)
    exact ⟨p, rfl, ⟨ob, _, n, g1, g2, g3, by simpa using items_are wr⟩, e2⟩
  refine call_set (fun k p => H p = some (.tup (k.map V.int))) (by have := gd.un; omega) hh pl.isList hlen (fun i v hv => by exact key i v hv) (by rw [hlen]; exact h60) fun h' tk o es ep t ps S hld hk hm hln hkeep => ?_
  have hn : H s.heap.objs.size = none := I.hok.fresh (Nat.le_refl _)
  refine ⟨.ref s.heap.objs.size, _, I.laid (fun b ob e => hkeep b ob (Heap.lt_size e) e) (Nat.le_refl _) ?_, rfl, q _ o es ep t ps hn ⟨hld, S.ents, hk, hm, S.nd, hln⟩⟩
  exact ⟨SetAt.it (s := { s with heap := h' }) S, ⟨o, S.get⟩, fun h1 h2 z e => z.at e⟩
theorem call_sortedS (gd : Gd X) : CallR X (.builtin "sorted") (rSortS X.prog X.w) := by
  intro pins s σ H xs us Q I r h
  obtain ⟨a, o, es, ep, t, ps, ks, rfl, ha, ok, h60, ne, q⟩ := h
  obtain ⟨u, rfl, ru⟩ := vals1 r
  cases ru
  have S : SetIt X.prog X.w s.heap a o es ep t ps := (I.hok a _ ha).1
  obtain ⟨m, F⟩ := I.fr
  have N : News X.base X.env.locals s.heap (allNews X.base s.heap X.env.locals) := news_all
  have hh : X.A.handled = none := I.ok.hd gd.calm
  have hsz : es.size = ps.length := S.size
  have hps : ps.length < 60 := Nat.lt_of_le_of_lt ok.len h60
  refine kdu_sorted (src_set (prog := X.prog) (a := a) (o := o) (es := es) (ep := ep) (t := t) (ps := ps) ok.led) hh F N S (by rw [hsz, sizeLine_eq]; omega) fun D h' tk vs F' N' above lvs hvs => ?_
  -- the keys in the order of the walk
  obtain ⟨ky, hky⟩ : ∃ ky : Int × Value → List Int, ∀ q ∈ ps, ky (ent X.prog X.w q) = q.1 := by
    refine ⟨fun e => match e.2 with
      | .ref p => (match H p with
        | some (.tup vs) => vs.map fun v => (match v with | .int i => i | _ => 0)
        | _ => [])
      | _ => [], fun q hq => ?_⟩
    show (match H q.2 with | some (.tup vs) => vs.map fun v => (match v with | .int i => i | _ => 0) | _ => []) = q.1
    rw [ok.keys q hq]
    show (q.1.map V.int).map _ = q.1
    rw [List.map_map]
    exact List.map_id _
  obtain ⟨ks', hks'⟩ : ∃ ks', ks' = (walked X.w a ep es).toList.map ky := ⟨_, rfl⟩
  have pw := walked_perm (w := X.w) (a := a) (ep := ep) (es := es)
  have pk' : ks'.Perm (ps.map (·.1)) := by
    rw [hks']
    refine (pw.map ky).trans ?_
    rw [ok.ents, List.map_map]
    refine List.Perm.of_eq (List.map_congr_left fun q hq => ?_)
    exact hky q hq
  have lk' : ks'.length = ps.length := by rw [pk'.length_eq, List.length_map]
  have hsame : sortK ks' = sortK (dd ks) := sort_same (pk'.trans (nodup_perm _ _ ok.nd (dd_nodup ks) fun k => by rw [ok.mem, dd_mem]))
  have ne' : ∀ k ∈ ks', k ≠ [] := fun k hk => ne k ((ok.mem k).1 (pk'.mem_iff.1 hk))
  have vk : ∀ (j : Nat) (v : Value), vs[j]? = some v → ∃ b k, v = .ref b ∧ ks'[j]? = some k ∧ H b = some (.tup (k.map V.int)) := fun j v ev => by
    obtain ⟨e, e1, e2⟩ := Option.map_eq_some_iff.mp (hvs j v ev)
    have em : e ∈ es.toList := pw.mem_iff.1 (by
      have : (walked X.w a ep es).toList[j]? = some e := by simpa using e1
      exact List.mem_of_getElem? this)
    rw [ok.ents] at em
    obtain ⟨q, hq, rfl⟩ := List.mem_map.mp em
    refine ⟨q.2, q.1, e2.symm, ?_, ok.keys q hq⟩
    have : (walked X.w a ep es).toList[j]? = some (ent X.prog X.w q) := by simpa using e1
    rw [hks', List.getElem?_map, this]
    show some (ky (ent X.prog X.w q)) = _
    rw [hky q hq]
  obtain ⟨ys, rv, pk⟩ := mk_ys vs ks' (by rw [lvs, hsz, lk']) vk
  have nD : s.heap.get? D = none := by
    cases e : s.heap.get? D with
    | none => rfl
    | some o =>
      have hn := N' (D, listOf vs.toArray 0) List.mem_cons_self
      exact absurd (above (D, o) (mem_allNews hn.2.1 hn.2.2 e)) (Nat.lt_irrefl _)
  have nH : H D = none := by
    cases z : H D with
    | none => rfl
    | some u => obtain ⟨ob, e⟩ := objOk_there (I.hok D u z); rw [nD] at e; cases e
  by_cases h2 : vs.length < 2
  · have hD := (N' (D, listOf vs.toArray 0) List.mem_cons_self)
    have hs : Paired (TupAt H) ys (sortK (dd ks)) := by
      have lks : ks'.length < 2 := by rw [lk', ← hsz, ← lvs]; exact h2
      have : sortK ks' = ks' := by
        match ks', lks with
        | [], _ => rfl
        | [_], _ => rfl
      rw [← hsame, this]; exact pk
    refine wpAny_call_entry slot_list_sort ⟨_, hD.1, rfl⟩ entry_list_sort (list_sort_short hD.1 h2 ?_) (args_list_sort _)
    refine ⟨_, rfl, ?_⟩
    obtain ⟨e, hat⟩ := sortedHeap_at (out := vs.toArray) hD.1
    have old : ∀ b o, b ≠ D → h'.get? b = some o → (sortedHeap h' D vs vs.toArray).get? b = some o := fun b o hb q => by
      rw [sortedHeap_old hb (Heap.lt_size q)]; exact q
    have keepL : ∀ b o, b ≠ X.env.locals → s.heap.get? b = some o → (sortedHeap h' D vs vs.toArray).get? b = some o := fun b o hb e => by
      have neD : b ≠ D := fun z => by rw [z, nD] at e; cases e
      refine old b o neD ?_
      cases g : X.base.get? b with
      | some o' => have := I.bk b o' g; rw [e] at this; cases this; exact F'.keep b _ g
      | none => exact (N' (b, o) (List.mem_cons_of_mem _ (mem_allNews hb g e))).1
    have F2 : Fr X.base X.env.locals (sortedHeap h' D vs vs.toArray) m := by
      obtain ⟨oL, a1, a2, hoL, a3⟩ := F'.ns
      refine ⟨⟨oL, a1, a2, old _ _ (Ne.symm hD.2.1) hoL, a3⟩, fun b x e => old b x (fun z => ?_) (F'.keep b x e), F'.above⟩
      rw [z, hD.2.2] at e; cases e
    exact ⟨.ref D, _, ledgerLaid (s' := { s with heap := sortedHeap h' D vs vs.toArray, toks := tk }) (o := .lst ys) I F F2 keepL nD ⟨by rw [rv.length, sizeLine_eq]; omega, vs, e, rv, hat⟩ rfl I.bare, rfl, q D ys nH hs⟩
  · refine kat_lsort (s := { s with heap := h', toks := tk }) F' N' (UpdF.head fun p hp => Nat.ne_of_lt (above p hp)) rfl (by simpa using Nat.not_lt.mp h2) (by simp; rw [lvs, hsz]; omega) fun e1 h'' F'' N'' => ?_
    exact sort_core (s := s) (tk0 := tk) I F pk rv ne' (by simpa using Nat.not_lt.mp h2) (by simp; rw [lvs, hsz]; omega) F'' N'' above fun outs hD _ po => q D outs hD (by rw [← hsame]; exact po)
end
noncomputable def fSortSet : D → Option D
  | .lst ds => (dTups ds).bind fun ks => if ks.length < 60 then some (.lst ((sortK (dd ks)).map kT)) else none
  | _ => none
section
variable {X : Cx} {G : Fc} {p p2 pos pos2 : Pos} {e : Expr} {m : EV}
theorem sn_sortset (gd : Gd X) (hg : Gl X "sorted") (hm : X.mg "sorted" = none) (hg2 : Gl X "set") (hm2 : X.mg "set" = none) (he : SE X G e m)
    (hs : starEach [.Call (.Name "set" p2) [e] [] pos2] X.env = (false, eval (.Call (.Name "set" p2) [e] [] pos2) X.env) :: starEach [] X.env := by rfl) (hpl : (backTo pos (starEach [] X.env)).any (·.1) = false := by rfl)
    (hs2 : starEach [e] X.env = (false, eval e X.env) :: starEach [] X.env := by rfl) (hpl2 : (backTo pos2 (starEach [] X.env)).any (·.1) = false := by rfl) :
    SN X G (.Call (.Name "sorted" p) [.Call (.Name "set" p2) [e] [] pos2] [] pos) (e1 fSortSet m) :=
  (pe_callB (call_sortedS gd) hg hm (by decide +kernel) (pa_cons (pe_callTy (call_setS gd) hg2 hm2 (by decide +kernel) (pa_cons he pa_nil hs2) (by decide) (by decide) hs2 hpl2) pa_nil hs) (by decide) (by decide) hs hpl).imp
    fun σ H Q z0 => z0.elim fun E z0 => z0.elim fun hr h => ⟨E, hr, (Fin.bind h).mono fun dx fx v H1 s1 p1 => by
      obtain ⟨d, e, q⟩ := Fin.of fx
      have fr := (hr.same s1).sane
      cases dx with
      | lst ds =>
        simp only [fSortSet, Option.bind_eq_some_iff] at e
        obtain ⟨ks, e1, e2⟩ := e
        split at e2
        · rename_i hl
          cases e2
          obtain ⟨a, vs, rfl, h1, r1⟩ := p1.lst
          obtain ⟨t1, t2, t3⟩ := tups_at e1 r1
          refine ⟨a, vs, ks, rfl, SqL.of h1, t1, hl, fun a2 o es ep t ps hn ok => ?_⟩
          have sm := same_upd (o := .ext fun h => SetIt X.prog X.w h a2 o es ep t ps) hn
          have ok2 : SetOk X.prog X.w (upd H1 a2 (.ext fun h => SetIt X.prog X.w h a2 o es ep t ps)) es t ps ks := ⟨ok.led, ok.ents, fun q hq => sm _ _ (ok.keys q hq), ok.mem, ok.nd, ok.len⟩
          refine ⟨a2, o, es, ep, t, ps, ks, rfl, upd_same, ok2, hl, t2, fun l outs hl2 po => ?_⟩
          have sm2 := same_upd (o := .lst outs) hl2
          have hnl : H l = none := by
            cases z : H l with
            | none => rfl
            | some u => rw [sm _ _ (s1 _ _ z)] at hl2; cases hl2
          refine q l _ ((s1.trans sm).trans sm2) hnl ⟨_, upd_same, ?_⟩
          refine ((tups_back (K := X.K) (O := Ow G.pr E σ) po fun u hu b hb => ?_).fresh hl2).mono sm2 fun _ z => z
          subst hb
          obtain ⟨i, hi, e⟩ := List.mem_iff_getElem.mp hu
          obtain ⟨k, _, b', e2, e3⟩ := paired_at po i (V.ref b) (by rw [List.getElem?_eq_getElem hi, e])
          cases e2
          refine fr.tup (vs := k.map V.int) ?_
          rw [upd_ne (fun z => by rw [z, upd_same] at e3; cases e3)] at e3
          exact e3
        · cases e2
      | _ => cases e⟩
end
end M

set_option linter.all false
namespace Ma
noncomputable abbrev Sq := Int × Int
noncomputable def Slt (a b : Sq) : Prop := a.1 < b.1 ∨ (a.1 = b.1 ∧ a.2 < b.2)
theorem Slt.irr {a : Sq} : ¬ Slt a a := by unfold Slt; omega
theorem Slt.trans {a b c : Sq} : Slt a b → Slt b c → Slt a c := by unfold Slt; omega
theorem Slt.tri {a b : Sq} : Slt a b ∨ a = b ∨ Slt b a := by
  unfold Slt
  rcases a with ⟨a1, a2⟩; rcases b with ⟨b1, b2⟩
  simp only [Prod.mk.injEq]; omega
instance (a b : Sq) : Decidable (Slt a b) := by unfold Slt; exact inferInstance
theorem nodup_len {α : Type} [DecidableEq α] : ∀ {l1 l2 : List α}, l1.Nodup → (∀ x ∈ l1, x ∈ l2) → l1.length ≤ l2.length
  | [], _, _, _ => by simp
  | a :: l1, l2, h, s => by
    rw [List.nodup_cons] at h
    have ha := s a (by simp)
    have := nodup_len (l2 := l2.erase a) h.2 fun x hx => by
      have hne : x ≠ a := fun e => h.1 (by rw [← e]; exact hx)
      exact (List.mem_erase_of_ne hne).2 (s x (List.mem_cons_of_mem _ hx))
    rw [List.length_erase_of_mem ha] at this
    have := List.length_pos_of_mem ha
    simp; omega
noncomputable def OnB (s : Sq) : Prop := 0 ≤ s.1 ∧ s.1 < 8 ∧ 0 ≤ s.2 ∧ s.2 < 8
instance (s : Sq) : Decidable (OnB s) := by unfold OnB; exact inferInstance
structure IsFloor (F : List Sq) : Prop where
  ord : F.Pairwise Slt
  on : ∀ s ∈ F, OnB s
noncomputable def InR (q : Sq) : Prop := -1 ≤ q.1 ∧ q.1 ≤ 8 ∧ -1 ≤ q.2 ∧ q.2 ≤ 8
instance (s : Sq) : Decidable (InR s) := by unfold InR; exact inferInstance
noncomputable def Near (p q : Sq) : Prop := p.1 - 1 ≤ q.1 ∧ q.1 ≤ p.1 + 1 ∧ p.2 - 1 ≤ q.2 ∧ q.2 ≤ p.2 + 1 ∧ InR q
inductive Reach (F : List Sq) : Sq → Prop
  | base : Reach F (-1, -1)
  | step {p q : Sq} : Reach F p → Near p q → q ∉ F → Reach F q
structure Closed (F L : List Sq) : Prop where
  st : (-1, -1) ∈ L
  ok : ∀ x ∈ L, Reach F x
  cl : ∀ p ∈ L, ∀ q, Near p q → q ∉ F → q ∈ L
end Ma

set_option Elab.async false
set_option linter.all false
namespace M
open PySem PySem.Spec PyProof.Rows L2 Ma
@[simp] theorem R_pure {α : Type} (a : α) : (pure a : R α) = .ok a := rfl
@[simp] theorem xSeq_e (m n : EX) (E : Ev) : xSeq m n E = (m E >>= fun o => match o with | .nx E' => n E' | o => .ok o) := rfl
@[simp] theorem xNil_e (E : Ev) : xNil E = .ok (.nx E) := rfl
@[simp] theorem xRet_e (m : EV) (E : Ev) : xRet m E = (m E >>= fun d => .ok (.rt d)) := rfl
@[simp] theorem xRetN_e (E : Ev) : xRetN E = .ok (.rt .non) := rfl
@[simp] theorem xSet_e (i : Nat) (m : EV) (E : Ev) : xSet i m E = (m E >>= fun d => .ok (.nx (E.set i (.fz d)))) := rfl
@[simp] theorem xOwn_e (i : Nat) (m : EV) (E : Ev) : xOwn i m E = (m E >>= fun d => .ok (.nx (E.set i (.ow d)))) := rfl
@[simp] theorem xDo_e (m : EV) (E : Ev) : xDo m E = (m E >>= fun _ => .ok (.nx E)) := rfl
@[simp] theorem xIf_e (t : Ev → R Bool) (a b : EX) (E : Ev) : xIf t a b E = (t E >>= fun k => if k = true then a E else b E) := rfl
@[simp] theorem xFrz_e (i : Nat) (m : EX) (E : Ev) : xFrz i m E = m (frz i E) := rfl
@[simp] theorem xApp_e (i : Nat) (m : EV) (E : Ev) : xApp i m E = (match E[i]? with
  | some (.ow (.lst ds)) => m E >>= fun d => if ds.length < 1000000 then .ok (.nx (E.set i (.ow (.lst (ds ++ [d]))))) else .no
  | _ => .no) := rfl
@[simp] theorem xExt_e (i : Nat) (m : EV) (E : Ev) : xExt i m E = (match E[i]? with
  | some (.ow (.lst ds)) => m E >>= fun d => match d with
    | .lst es => if ds.length + es.length < 1000000 then .ok (.nx (E.set i (.ow (.lst (ds ++ es))))) else .no
    | _ => .no
  | _ => .no) := rfl
@[simp] theorem xPop_e (i j : Nat) (E : Ev) : xPop i j E = (match E[i]? with
  | some (.ow (.lst ds)) => match ds[ds.length - 1]? with
    | some d => .ok (.nx ((E.set i (.ow (.lst ds.dropLast))).set j (.fz d)))
    | none => .no
  | _ => .no) := rfl
@[simp] theorem xDput_e (i : Nat) (mk mv : EV) (E : Ev) : xDput i mk mv E = (match E[i]? with
  | some (.ow (.dic kvs)) => mv E >>= fun d => mk E >>= fun k => match keyOf k with
    | some ks => if kvs.length < 1000000 then .ok (.nx (E.set i (.ow (.dic (dput kvs ks d))))) else .no
    | none => .no
  | _ => .no) := rfl
@[simp] theorem xFor_e (mi : Ev → R (List D)) (set : D → Ev → Option Ev) (b : EX) (E : Ev) : xFor mi set b E = (mi E >>= fun ds => forL set b ds E) := rfl
@[simp] theorem vE_fz (i : Nat) (E : Ev) (d : D) (h : E[i]? = some (.fz d)) : vE i E = .ok d := by unfold vE; rw [h]
@[simp] theorem vE_ow (i : Nat) (E : Ev) (d : D) (h : E[i]? = some (.ow d)) : vE i E = .ok d := by unfold vE; rw [h]
@[simp] theorem vF_fz (i : Nat) (E : Ev) (d : D) (h : E[i]? = some (.fz d)) : vF i E = .ok d := by unfold vF; rw [h]
@[simp] theorem kE_e (d : D) (E : Ev) : kE d E = .ok d := rfl
@[simp] theorem e1_e (f : D → Option D) (a : EV) (E : Ev) : e1 f a E = (a E >>= fun x => ofO (f x)) := rfl
@[simp] theorem e2_e (f : D → D → Option D) (a b : EV) (E : Ev) : e2 f a b E = (a E >>= fun x => b E >>= fun y => ofO (f x y)) := rfl
@[simp] theorem aNil_e (E : Ev) : aNil E = .ok [] := rfl
@[simp] theorem aCons_e (a : EV) (r : Ev → R (List D)) (E : Ev) : aCons a r E = (a E >>= fun x => r E >>= fun xs => .ok (x :: xs)) := rfl
noncomputable def unB : D → R Bool
  | .bl b => .ok b
  | _ => .no
noncomputable def andB (x : D) (y : R D) : R D := match x with
  | .bl true => y
  | .bl false => .ok (.bl false)
  | _ => .no
noncomputable def orB (x : D) (y : R D) : R D := match x with
  | .bl true => .ok (.bl true)
  | .bl false => y
  | _ => .no
@[simp] theorem unB_b (b : Bool) : unB (.bl b) = .ok b := rfl
@[simp] theorem andB_t (y : R D) : andB (.bl true) y = y := rfl
@[simp] theorem andB_f (y : R D) : andB (.bl false) y = .ok (.bl false) := rfl
@[simp] theorem orB_t (y : R D) : orB (.bl true) y = .ok (.bl true) := rfl
@[simp] theorem orB_f (y : R D) : orB (.bl false) y = y := rfl
@[simp] theorem andB_bb (b c : Bool) : andB (.bl b) (.ok (.bl c)) = .ok (.bl (b && c)) := by cases b <;> rfl
@[simp] theorem orB_bb (b c : Bool) : orB (.bl b) (.ok (.bl c)) = .ok (.bl (b || c)) := by cases b <;> rfl
@[simp] theorem ite_andB (b c : Bool) : (if b = true then R.ok c else R.ok false) = R.ok (b && c) := by cases b <;> rfl
@[simp] theorem ite_orB (b c : Bool) : (if b = true then R.ok true else R.ok c) = R.ok (b || c) := by cases b <;> rfl
@[simp] theorem ite_andP (p : Prop) [Decidable p] (c : Bool) : (if p then R.ok c else R.ok false) = R.ok (decide p && c) := by by_cases h : p <;> simp [h]
@[simp] theorem ite_orP (p : Prop) [Decidable p] (c : Bool) : (if p then R.ok true else R.ok c) = R.ok (decide p || c) := by by_cases h : p <;> simp [h]
@[simp] theorem tstB_e (a : EV) (E : Ev) : tstB a E = (a E >>= unB) := by
  unfold tstB; congr 1
@[simp] theorem tstV_e (a : EV) (E : Ev) : tstV a E = (a E >>= fun d => ofO (truD d)) := rfl
@[simp] theorem bAnd_e (t u : Ev → R Bool) (E : Ev) : bAnd t u E = (t E >>= fun k => if k = true then u E else .ok false) := rfl
@[simp] theorem bOr_e (t u : Ev → R Bool) (E : Ev) : bOr t u E = (t E >>= fun k => if k = true then .ok true else u E) := rfl
@[simp] theorem bNot_e (t : Ev → R Bool) (E : Ev) : bNot t E = (t E >>= fun k => .ok (!k)) := rfl
@[simp] theorem eAnd_e (t u : EV) (E : Ev) : eAnd t u E = (t E >>= fun d => andB d (u E)) := rfl
@[simp] theorem eOr_e (t u : EV) (E : Ev) : eOr t u E = (t E >>= fun d => orB d (u E)) := rfl
noncomputable def notB : D → R D
  | .bl k => .ok (.bl (!k))
  | _ => .no
@[simp] theorem notB_b (b : Bool) : notB (.bl b) = .ok (.bl (!b)) := rfl
@[simp] theorem eNot_e (t : EV) (E : Ev) : eNot t E = (t E >>= notB) := by
  unfold eNot; congr 1
@[simp] theorem eIf_e (t : Ev → R Bool) (a b : EV) (E : Ev) : eIf t a b E = (t E >>= fun k => if k = true then a E else b E) := rfl
@[simp] theorem eTup_e (t : Ev → R (List D)) (E : Ev) : eTup t E = (t E >>= fun ds => if ds.length ≤ 1000 then .ok (.tup ds) else .no) := rfl
@[simp] theorem eLst_e (t : Ev → R (List D)) (E : Ev) : eLst t E = (t E >>= fun ds => if ds.length ≤ 1000 then .ok (.lst ds) else .no) := rfl
@[simp] theorem eSl_e (a : EV) (lo hi : Ev → R (Option Int)) (E : Ev) : eSl a lo hi E = (a E >>= fun x => lo E >>= fun l => hi E >>= fun h => ofO (fSl x l h)) := rfl
@[simp] theorem oPart_e (m : EV) (E : Ev) : oPart m E = (m E >>= fun d => match d with | .int i => .ok (some i) | _ => .no) := rfl
@[simp] theorem oNone_e (E : Ev) : oNone E = .ok none := rfl
@[simp] theorem eCh_e (f g : D → D → Option D) (ma mb mc : EV) (E : Ev) : eCh f g ma mb mc E = (ma E >>= fun x => mb E >>= fun y => ofO (f x y) >>= fun t => match t with
  | .bl true => mc E >>= fun z => ofO (g y z)
  | .bl false => .ok (.bl false)
  | _ => .no) := rfl
@[simp] theorem eD1_e (mk mv : EV) (E : Ev) : eD1 mk mv E = (mk E >>= fun k => mv E >>= fun v => match keyOf k with
  | some ks => if flatB v = true then .ok (.dic [(ks, v)]) else .no
  | none => .no) := rfl
@[simp] theorem eCall_e (n : Nat) (dn : List D → R D) (ma : Ev → R (List D)) (E : Ev) : eCall n dn ma E = (ma E >>= fun ds => if ds.length = n then dn ds else .no) := rfl
@[simp] theorem eLoose_e (i : Nat) (m : EV) (E : Ev) : eLoose i m E = (m (frz i E) >>= flat) := rfl
@[simp] theorem iD_e (m : EV) (E : Ev) : iD m E = (m E >>= fun d => match d with | .lst ds => .ok ds | _ => .no) := rfl
@[simp] theorem iT_e (m : EV) (E : Ev) : iT m E = (m E >>= fun d => match d with | .tup ds => .ok ds | _ => .no) := rfl
noncomputable def rng (a b : Int) : List Int := (List.range (b - a).toNat).map fun (k : Nat) => a + (k : Int)
theorem mem_rng {a b x : Int} : x ∈ rng a b ↔ a ≤ x ∧ x < b := by
  unfold rng
  simp only [List.mem_map, List.mem_range]
  constructor
  · rintro ⟨k, hk, rfl⟩; omega
  · rintro ⟨h1, h2⟩; exact ⟨(x - a).toNat, by omega, by omega⟩
theorem rng_length (a b : Int) : (rng a b).length = (b - a).toNat := by simp [rng]
theorem rng_pairwise (a b : Int) : (rng a b).Pairwise (· < ·) := by
  unfold rng
  rw [List.pairwise_map]
  exact List.pairwise_lt_range.imp fun h => by omega
@[simp] theorem iR1_e (m : EV) (E : Ev) : iR1 m E = (m E >>= fun d => match d with
  | .int n => if n.natAbs < 1000000 then .ok ((rng 0 n).map D.int) else .no
  | _ => .no) := by
  unfold iR1 rng
  congr 1
  funext d
  cases d <;> simp
  rfl
@[simp] theorem iR2_e (m n : EV) (E : Ev) : iR2 m n E = (m E >>= fun d => n E >>= fun e => match d, e with
  | .int a, .int b => if a.natAbs < 1000000 ∧ b.natAbs < 1000000 then .ok ((rng a b).map D.int) else .no
  | _, _ => .no) := by
  unfold iR2 rng
  congr 1
  funext d
  congr 1
  funext e
  cases d <;> cases e <;> simp
  rfl
@[simp] theorem iZ_e (ma mb : EV) (E : Ev) : iZ ma mb E = (ma E >>= fun x => mb E >>= fun y => match x, y with
  | .lst xs, .lst ys => .ok (List.zipWith (fun a b => D.tup [a, b]) xs ys)
  | _, _ => .no) := rfl
@[simp] theorem gN_e (i : Nat) (d : D) (E : Ev) : gN i d E = some (E.set i (.fz d)) := rfl
@[simp] theorem gT_e (i j : Nat) (a b : D) (E : Ev) : gT i j (.tup [a, b]) E = some ((E.set i (.fz a)).set j (.fz b)) := rfl
@[simp] theorem tTrue_e (E : Ev) : tTrue E = .ok true := rfl
@[simp] theorem den_e (n : Nat) (m : EX) (ds : List D) : den n m ds = ended (m (ds.map Sl.fz ++ List.replicate (n - ds.length) .un)) := rfl
@[simp] theorem ended_rt (d : D) : ended (.ok (.rt d)) = .ok d := rfl
@[simp] theorem ended_nx (E : Ev) : ended (.ok (.nx E)) = .ok .non := rfl
@[simp] theorem flat_bl (b : Bool) : flat (.bl b) = .ok (.bl b) := rfl
@[simp] theorem flat_int (b : Int) : flat (.int b) = .ok (.int b) := rfl
@[simp] theorem flat_non : flat .non = .ok .non := rfl
theorem frz_e (i : Nat) (E : Ev) : frz i E = (match E[i]? with | some (.ow d) => E.set i (.fz d) | _ => E) := by
  unfold frz; rfl
@[simp] theorem fAdd_i (a b : Int) : fAdd (.int a) (.int b) = some (.int (a + b)) := rfl
@[simp] theorem fSub_i (a b : Int) : fSub (.int a) (.int b) = some (.int (a - b)) := rfl
@[simp] theorem fNeg_i (a : Int) : fNeg (.int a) = some (.int (-a)) := rfl
@[simp] theorem fMul_i (a b : Int) : fMul (.int a) (.int b) = if a.natAbs < 2 ^ 63 ∨ b.natAbs < 2 ^ 63 then some (.int (a * b)) else none := rfl
@[simp] theorem fDiv_i (a b : Int) : fDiv (.int a) (.int b) = if 0 < b ∧ b < 1073741824 then some (.int (a / b)) else none := rfl
@[simp] theorem fMod_i (a b : Int) : fMod (.int a) (.int b) = if 0 < b then some (.int (a % b)) else none := rfl
@[simp] theorem fLt_i (a b : Int) : fLt (.int a) (.int b) = some (.bl (decide (a < b))) := rfl
@[simp] theorem fLtI_i (a b : Int) : fLtI (.int a) (.int b) = some (.bl (decide (a < b))) := rfl
@[simp] theorem fLe_i (a b : Int) : fLe (.int a) (.int b) = some (.bl (decide (a ≤ b))) := rfl
@[simp] theorem fGt_i (a b : Int) : fGt (.int a) (.int b) = some (.bl (decide (b < a))) := rfl
@[simp] theorem fGe_i (a b : Int) : fGe (.int a) (.int b) = some (.bl (decide (b ≤ a))) := rfl
@[simp] theorem fMax_i (a b : Int) : fMax (.int a) (.int b) = some (.int (if b > a then b else a)) := rfl
@[simp] theorem fMin_i (a b : Int) : fMin (.int a) (.int b) = some (.int (if b < a then b else a)) := rfl
theorem beq_dec {α : Type} [DecidableEq α] (a b : α) : (a == b) = decide (a = b) := by by_cases h : a = b <;> simp [h]
@[simp] theorem fEq_i (a b : Int) : fEq (.int a) (.int b) = some (.bl (decide (a = b))) := by rw [← beq_dec]; rfl
@[simp] theorem fNe_i (a b : Int) : fNe (.int a) (.int b) = some (.bl (!(decide (a = b)))) := by rw [← beq_dec]; rfl
@[simp] theorem fEq_b (a b : Bool) : fEq (.bl a) (.bl b) = some (.bl (a == b)) := rfl
@[simp] theorem fNe_b (a b : Bool) : fNe (.bl a) (.bl b) = some (.bl (!(a == b))) := rfl
@[simp] theorem fLen_l (ds : List D) : fLen (.lst ds) = some (.int ds.length) := rfl
@[simp] theorem fLen_t (ds : List D) : fLen (.tup ds) = some (.int ds.length) := rfl
@[simp] theorem fLen_d (ds : List (List Int × D)) : fLen (.dic ds) = some (.int ds.length) := rfl
@[simp] theorem fLen_s (ds : List Int) : fLen (.scr ds) = some (.int ds.length) := rfl
@[simp] theorem fList_l (ds : List D) : fList (.lst ds) = some (.lst ds) := rfl
@[simp] theorem truD_b (b : Bool) : truD (.bl b) = some b := rfl
@[simp] theorem truD_l (ds : List D) : truD (.lst ds) = some (!ds.isEmpty) := rfl
noncomputable abbrev dS (s : Sq) : D := .tup [.int s.1, .int s.2]
noncomputable abbrev dL (L : List Sq) : D := .lst (L.map dS)
noncomputable abbrev dD (L : List Sq) : D := .dic (L.map fun s => ([s.1, s.2], .bl true))
theorem atI_pos {α : Type} {xs : List α} {i : Int} (h0 : 0 ≤ i) (h1 : i < xs.length) : atI xs i = xs[i.toNat]? := by
  unfold atI ixN
  rw [if_pos h0, if_pos h1]; rfl
theorem atI_nat {α : Type} {xs : List α} {i : Nat} {x : α} (h : xs[i]? = some x) : atI xs (i : Int) = some x := by
  have h1 : i < xs.length := (List.getElem?_eq_some_iff.mp h).1
  rw [atI_pos (by omega) (by omega)]
  simpa using h
@[simp] theorem fIx_0 (a : D) (r : List D) : fIx (.tup (a :: r)) (.int 0) = some a := atI_nat (i := 0) rfl
@[simp] theorem fIx_1 (a b : D) (r : List D) : fIx (.tup (a :: b :: r)) (.int 1) = some b := atI_nat (i := 1) rfl
@[simp] theorem fIx_2 (a b c : D) (r : List D) : fIx (.tup (a :: b :: c :: r)) (.int 2) = some c := atI_nat (i := 2) rfl
@[simp] theorem atI_0 {α : Type} (a : α) (r : List α) : atI (a :: r) 0 = some a := atI_nat (i := 0) rfl
@[simp] theorem atI_1 {α : Type} (a b : α) (r : List α) : atI (a :: b :: r) 1 = some b := atI_nat (i := 1) rfl
@[simp] theorem atI_2 {α : Type} (a b c : α) (r : List α) : atI (a :: b :: c :: r) 2 = some c := atI_nat (i := 2) rfl
@[simp] theorem fIx_l (ds : List D) (i : Int) : fIx (.lst ds) (.int i) = atI ds i := rfl
noncomputable def Goes (r : R Out) (P : Ev → Prop) : Prop := match r with
  | .ok (.nx E) => P E
  | .ok (.ct E) => P E
  | _ => False
@[simp] theorem Goes_nx (E : Ev) (P : Ev → Prop) : Goes (.ok (.nx E)) P = P E := rfl
@[simp] theorem Goes_ct (E : Ev) (P : Ev → Prop) : Goes (.ok (.ct E)) P = P E := rfl
theorem goes_of {r : R Out} {E : Ev} {P : Ev → Prop} (h : r = .ok (.nx E)) (hp : P E) : Goes r P := by rw [h]; exact hp
section
variable {set : D → Ev → Option Ev} {b : EX} {c : Ev → R Bool}
theorem forL_cons {d : D} {ds : List D} {E E1 : Ev} {P : Ev → Prop} (h1 : set d E = some E1) (h2 : Goes (b E1) P) : ∃ E2, P E2 ∧ forL set b (d :: ds) E = forL set b ds E2 := by
  conv => rhs; intro E2; rhs; lhs; unfold forL
  rw [h1]
  unfold Goes at h2
  split at h2
  · rename_i E2 e; exact ⟨E2, h2, by dsimp only; rw [e]; rfl⟩
  · rename_i E2 e; exact ⟨E2, h2, by dsimp only; rw [e]; rfl⟩
  · exact h2.elim
theorem forL_fold {α S : Type} (f : α → D) (st : S → α → S) (I : S → Ev → Prop) : ∀ (xs : List α) (s : S) (E : Ev), (∀ s E, I s E → ∀ x ∈ xs, ∃ E1, set (f x) E = some E1 ∧ Goes (b E1) (I (st s x))) → I s E →
    ∃ E', forL set b (xs.map f) E = .ok (.nx E') ∧ I (xs.foldl st s) E'
  | [], s, E, _, h0 => ⟨E, rfl, h0⟩
  | x :: r, s, E, h, h0 => by
    obtain ⟨E1, e1, e2⟩ := h s E h0 x (by simp)
    obtain ⟨E2, i2, e3⟩ := forL_cons (ds := r.map f) e1 e2
    obtain ⟨E', e4, e5⟩ := forL_fold f st I r (st s x) E2 (fun s E hE y hy => h s E hE y (List.mem_cons_of_mem _ hy)) i2
    exact ⟨E', by rw [List.map_cons, e3]; exact e4, e5⟩
theorem forL_pre {α : Type} (f : α → D) (I : List α → Ev → Prop) (xs : List α) (h : ∀ pre x post, xs = pre ++ x :: post → ∀ E, I pre E → ∃ E1, set (f x) E = some E1 ∧ Goes (b E1) (I (pre ++ [x]))) :
    ∀ (E : Ev), I [] E → ∃ E', forL set b (xs.map f) E = .ok (.nx E') ∧ I xs E' := by
  have key : ∀ (post pre : List α) (E : Ev), xs = pre ++ post → I pre E → ∃ E', forL set b (post.map f) E = .ok (.nx E') ∧ I xs E' := by
    intro post
    induction post with
    | nil => intro pre E e h0; exact ⟨E, rfl, by rw [e, List.append_nil]; exact h0⟩
    | cons x r ih =>
      intro pre E e h0
      obtain ⟨E1, e1, e2⟩ := h pre x r e E h0
      obtain ⟨E2, i2, e3⟩ := forL_cons (ds := r.map f) e1 e2
      obtain ⟨E', e4, e5⟩ := ih (pre ++ [x]) E2 (by rw [e]; simp) i2
      exact ⟨E', by rw [List.map_cons, e3]; exact e4, e5⟩
  exact fun E h0 => key xs [] E rfl h0
noncomputable def foldX {α S : Type} (st : S → α → D ⊕ S) : List α → S → D ⊕ S
  | [], s => .inr s
  | x :: r, s => match st s x with
    | .inl d => .inl d
    | .inr s' => foldX st r s'
end
theorem compL_ok {α : Type} {set : D → Ev → Option Ev} {mt : Ev → R Bool} {me : EV} {E : Ev} (f : α → D) (p : α → Bool) (g : α → D) : ∀ (xs : List α), (∀ x ∈ xs, ∃ E1, set (f x) E = some E1 ∧ mt E1 = .ok (p x) ∧ (p x = true → me E1 = .ok (g x))) →
    compL set mt me E (xs.map f) = .ok ((xs.filter p).map g)
  | [], _ => rfl
  | x :: r, h => by
    obtain ⟨E1, e1, e2, e3⟩ := h x (by simp)
    rw [List.map_cons]
    unfold compL
    rw [e1]
    dsimp only
    rw [e2]
    have ih := compL_ok f p g r fun y hy => h y (List.mem_cons_of_mem _ hy)
    by_cases hp : p x = true
    · rw [hp, List.filter_cons_of_pos hp, List.map_cons]
      simp only [R.ok_bind, if_true]
      rw [e3 hp, ih]; rfl
    · rw [List.filter_cons_of_neg hp]
      have : p x = false := by simpa using hp
      rw [this]
      simp only [R.ok_bind, Bool.false_eq_true, if_false]
      exact ih
theorem compL_map {α : Type} {set : D → Ev → Option Ev} {me : EV} {E : Ev} (f : α → D) (g : α → D) (xs : List α) (h : ∀ x ∈ xs, ∃ E1, set (f x) E = some E1 ∧ me E1 = .ok (g x)) :
    compL set tTrue me E (xs.map f) = .ok (xs.map g) := by
  rw [compL_ok f (fun _ => true) g xs fun x hx => by obtain ⟨E1, e1, e2⟩ := h x hx; exact ⟨E1, e1, rfl, fun _ => e2⟩, List.filter_eq_self.2 (by simp)]
@[simp] theorem eComp_e (ts : List Nat) (set : D → Ev → Option Ev) (mi : Ev → R (List D)) (mt : Ev → R Bool) (me : EV) (E : Ev) : eComp ts set mi mt me E = (if noOw ts E = true then (mi E >>= fun ds => if ds.length ≤ 1000000 then (compL set mt me (clr ts E) ds >>= fun ys => .ok (.lst ys)) else .no) else .no) := rfl
end M

set_option Elab.async false
set_option linter.all false
namespace M
open PySem PySem.Spec PyProof.Rows L2 Ma
theorem fLt_S (a b : Sq) : fLt (dS a) (dS b) = some (.bl (decide (Slt a b))) := by
  show (some (D.bl (HT.lexLt [a.1, a.2] [b.1, b.2]))) = _
  simp only [HT.lexLt_cons, HT.lexLt_nil_nil]
  unfold Slt
  by_cases h : a.1 = b.1
  · simp [h]; omega
  · simp [h]
theorem fGe_S (a b : Sq) : fGe (dS a) (dS b) = some (.bl (!(decide (Slt a b)))) := by
  show (some (D.bl (!(HT.lexLt [a.1, a.2] [b.1, b.2])))) = _
  simp only [HT.lexLt_cons, HT.lexLt_nil_nil]
  unfold Slt
  by_cases h : a.1 = b.1
  · simp [h]; omega
  · simp [h]
theorem cut_from (ds : List D) (k : Nat) : cutD ds (some (k : Int)) none = ds.drop k := by
  unfold cutD
  rw [HT.sIx_nat, HT.sIx_none]
  by_cases h : k ≤ ds.length
  · rw [Nat.min_eq_left h, List.take_of_length_le (by simp)]
  · rw [Nat.min_eq_right (by omega), List.drop_of_length_le (Nat.le_refl _), List.drop_of_length_le (by omega)]; simp
theorem cut_to (ds : List D) (k : Nat) : cutD ds none (some (k : Int)) = ds.take k := by
  unfold cutD
  rw [HT.sIx_nat, HT.sIx_none]
  show (ds.drop 0).take (min k ds.length - 0) = _
  rw [List.drop_zero, Nat.sub_zero]
  by_cases h : k ≤ ds.length
  · rw [Nat.min_eq_left h]
  · rw [Nat.min_eq_right (by omega), List.take_of_length_le (Nat.le_refl _), List.take_of_length_le (by omega)]
@[simp] theorem fSl_1 (ds : List D) : fSl (.lst ds) (some 1) none = some (.lst (ds.drop 1)) := by
  show some (D.lst (cutD ds (some ((1 : Nat) : Int)) none)) = _
  rw [cut_from]
theorem zip_map2 (F G : List Sq) : List.zipWith (fun a b => D.tup [a, b]) (F.map dS) (G.map dS) = (F.zip G).map fun p => D.tup [dS p.1, dS p.2] := by
  rw [List.zipWith_map, List.zip, List.map_zipWith]
@[simp] theorem eqb_S (a b : Sq) : eqb (dS a) (dS b) = decide (a = b) := by
  rcases a with ⟨a1, a2⟩; rcases b with ⟨b1, b2⟩
  simp only [eqb, eqbs, Prod.mk.injEq, Bool.and_true]
  by_cases h : a1 = b1 <;> by_cases h' : a2 = b2 <;> simp [h, h']
@[simp] theorem pl3_S (a : Sq) : pl 3 (dS a) = true := rfl
@[simp] theorem pl4_S (a : Sq) : pl 4 (dS a) = true := rfl
theorem pls3_S : ∀ (L : List Sq), pls 3 (L.map dS) = true
  | [] => rfl
  | a :: r => by
    have := pls3_S r
    simp [pls, this]
theorem any_S (q : Sq) : ∀ (L : List Sq), ((L.map dS).any fun y => eqb y (dS q)) = decide (q ∈ L)
  | [] => rfl
  | a :: r => by
    rw [List.map_cons, List.any_cons, any_S q r, eqb_S]
    by_cases h : a = q
    · simp [h]
    · have h' : ¬ q = a := fun e => h e.symm
      simp [h, h']
theorem fIn_S (q : Sq) (L : List Sq) : fIn (dS q) (dL L) = some (.bl (decide (q ∈ L))) := by
  show (if (pl 3 (dS q) && pls 3 (L.map dS)) = true then some (D.bl ((L.map dS).any fun y => eqb y (dS q))) else none) = _
  rw [pls3_S, any_S]; rfl
theorem fNotIn_S (q : Sq) (L : List Sq) : fNotIn (dS q) (dL L) = some (.bl (!(decide (q ∈ L)))) := by
  show (if (pl 3 (dS q) && pls 3 (L.map dS)) = true then some (D.bl (!((L.map dS).any fun y => eqb y (dS q)))) else none) = _
  rw [pls3_S, any_S]; rfl
theorem keyOf_S (q : Sq) : keyOf (dS q) = some [q.1, q.2] := rfl
theorem eqbs_L : ∀ (L M : List Sq), eqbs (L.map dS) (M.map dS) = decide (L = M)
  | [], [] => rfl
  | [], b :: r => by simp [eqbs]
  | a :: r, [] => by simp [eqbs]
  | a :: r, b :: s => by
    rw [List.map_cons, List.map_cons, eqbs, eqb_S, eqbs_L r s]
    by_cases h : a = b <;> by_cases h' : r = s <;> simp [h, h']
theorem pl4_L (L : List Sq) : pl 4 (dL L) = true := pls3_S L
@[simp] theorem fEq_L (L M : List Sq) : fEq (dL L) (dL M) = some (.bl (decide (L = M))) := by
  show (if (pl 4 (dL L) && pl 4 (dL M)) = true then some (D.bl (eqbs (L.map dS) (M.map dS))) else none) = _
  rw [pl4_L, pl4_L, eqbs_L]; rfl
@[simp] theorem fNe_L (L M : List Sq) : fNe (dL L) (dL M) = some (.bl (!(decide (L = M)))) := by
  show (if (pl 4 (dL L) && pl 4 (dL M)) = true then some (D.bl (!(eqbs (L.map dS) (M.map dS)))) else none) = _
  rw [pl4_L, pl4_L, eqbs_L]; rfl
theorem fEq_S (a b : Sq) : fEq (dS a) (dS b) = some (.bl (decide (a = b))) := by
  show (if (pl 4 (dS a) && pl 4 (dS b)) = true then some (D.bl (eqb (dS a) (dS b))) else none) = _
  rw [eqb_S]; rfl
theorem fNe_S (a b : Sq) : fNe (dS a) (dS b) = some (.bl (!(decide (a = b)))) := by
  show (if (pl 4 (dS a) && pl 4 (dS b)) = true then some (D.bl (!(eqb (dS a) (dS b)))) else none) = _
  rw [eqb_S]; rfl
theorem dget_D (q : Sq) : ∀ (L : List Sq), (dget (L.map fun s => ([s.1, s.2], D.bl true)) [q.1, q.2]).isSome = decide (q ∈ L)
  | [] => rfl
  | a :: r => by
    have ih := dget_D q r
    rw [List.map_cons]
    unfold dget
    rcases a with ⟨a1, a2⟩; rcases q with ⟨q1, q2⟩
    by_cases h : a1 = q1 ∧ a2 = q2
    · obtain ⟨rfl, rfl⟩ := h; simp
    · have h1 : ¬ ([a1, a2] = [q1, q2]) := fun e => h (by simpa using e)
      have h2 : ¬ ((q1, q2) = (a1, a2)) := fun e => h (by simp at e; exact ⟨e.1.symm, e.2.symm⟩)
      simp only [h1, if_false]
      rw [ih]
      simp only [List.mem_cons, h2, false_or]
theorem fDin_S (q : Sq) (L : List Sq) : fDin (dS q) (dD L) = some (.bl (decide (q ∈ L))) := by
  show ((keyOf (dS q)).map fun ks => D.bl (dget (L.map fun s => ([s.1, s.2], D.bl true)) ks).isSome) = _
  rw [keyOf_S, Option.map_some, dget_D]
theorem fDnotIn_S (q : Sq) (L : List Sq) : fDnotIn (dS q) (dD L) = some (.bl (!(decide (q ∈ L)))) := by
  show ((keyOf (dS q)).map fun ks => D.bl (!(dget (L.map fun s => ([s.1, s.2], D.bl true)) ks).isSome)) = _
  rw [keyOf_S, Option.map_some, dget_D]
@[simp] theorem keyOf_2 (a b : Int) : keyOf (.tup [.int a, .int b]) = some [a, b] := rfl
@[simp] theorem fLt_2 (a b c d : Int) : fLt (.tup [.int a, .int b]) (.tup [.int c, .int d]) = some (.bl (decide (Slt (a, b) (c, d)))) := fLt_S (a, b) (c, d)
@[simp] theorem fGe_2 (a b c d : Int) : fGe (.tup [.int a, .int b]) (.tup [.int c, .int d]) = some (.bl (!(decide (Slt (a, b) (c, d))))) := fGe_S (a, b) (c, d)
@[simp] theorem fEq_2 (a b c d : Int) : fEq (.tup [.int a, .int b]) (.tup [.int c, .int d]) = some (.bl (decide ((a, b) = (c, d)))) := fEq_S (a, b) (c, d)
@[simp] theorem fNe_2 (a b c d : Int) : fNe (.tup [.int a, .int b]) (.tup [.int c, .int d]) = some (.bl (!(decide ((a, b) = (c, d))))) := fNe_S (a, b) (c, d)
@[simp] theorem fIn_2 (a b : Int) (L : List Sq) : fIn (.tup [.int a, .int b]) (dL L) = some (.bl (decide ((a, b) ∈ L))) := fIn_S (a, b) L
@[simp] theorem fNotIn_2 (a b : Int) (L : List Sq) : fNotIn (.tup [.int a, .int b]) (dL L) = some (.bl (!(decide ((a, b) ∈ L)))) := fNotIn_S (a, b) L
@[simp] theorem fDin_2 (a b : Int) (L : List Sq) : fDin (.tup [.int a, .int b]) (dD L) = some (.bl (decide ((a, b) ∈ L))) := fDin_S (a, b) L
@[simp] theorem fDnotIn_2 (a b : Int) (L : List Sq) : fDnotIn (.tup [.int a, .int b]) (dD L) = some (.bl (!(decide ((a, b) ∈ L)))) := fDnotIn_S (a, b) L
theorem dput_D (q : Sq) (L : List Sq) (h : q ∉ L) : dput (L.map fun s => ([s.1, s.2], D.bl true)) [q.1, q.2] (.bl true) = (L ++ [q]).map fun s => ([s.1, s.2], D.bl true) := by
  unfold dput
  have : ((L.map fun s => ([s.1, s.2], D.bl true)).any fun kv => decide (kv.1 = [q.1, q.2])) = false := by
    rw [List.any_eq_false]
    intro x hx
    obtain ⟨s, hs, rfl⟩ := List.mem_map.mp hx
    simp only [decide_eq_true_eq]
    intro e
    apply h
    have : s = q := by
      rcases s with ⟨s1, s2⟩; rcases q with ⟨q1, q2⟩
      simpa using e
    rw [← this]; exact hs
  rw [this]
  simp
end M

set_option Elab.async false
set_option linter.all false
set_option maxRecDepth 100000
namespace M
open PySem PySem.Spec PyProof.Rows L2 Ma
theorem pairs_lt {F : List Sq} (h : F.Pairwise Slt) : ∀ p ∈ F.zip (F.drop 1), Slt p.1 p.2 := by
  intro p hp
  obtain ⟨i, hi, e⟩ := List.mem_iff_getElem.mp hp
  rw [List.pairwise_iff_getElem] at h
  simp at hi
  have := h i (i + 1) (by omega) (by omega) (by omega)
  rw [← e]
  simp only [List.getElem_zip, List.getElem_drop, Nat.add_comm 1 i]
  exact this
noncomputable def grid (a b c d : Int) : List Sq := (rng a b).flatMap fun r => (rng c d).map fun k => (r, k)
theorem mem_grid {a b c d : Int} {q : Sq} : q ∈ grid a b c d ↔ a ≤ q.1 ∧ q.1 < b ∧ c ≤ q.2 ∧ q.2 < d := by
  unfold grid
  simp only [List.mem_flatMap, List.mem_map, mem_rng]
  constructor
  · rintro ⟨r, h, k, h', rfl⟩; exact ⟨h.1, h.2, h'.1, h'.2⟩
  · rintro ⟨h1, h2, h3, h4⟩; exact ⟨q.1, ⟨h1, h2⟩, q.2, ⟨h3, h4⟩, rfl⟩
theorem grid_len_le (a b c d : Int) : (grid a b c d).length = (b - a).toNat * (d - c).toNat := by
  unfold grid
  rw [List.length_flatMap]
  simp only [List.length_map, rng_length, List.map_const', List.sum_replicate_nat]
structure Dfs (F R W : List Sq) : Prop where
  nd : R.Nodup
  st : (-1, -1) ∈ R
  ok : ∀ x ∈ R, Reach F x
  wr : ∀ x ∈ W, x ∈ R
  wn : W.Nodup
  cl : ∀ p ∈ R, p ∉ W → ∀ q, Near p q → q ∉ F → q ∈ R
noncomputable def rnd (q : Sq) (R : List Sq) : Bool := (rng (q.1 - 1) (q.1 + 2)).any fun r => (rng (q.2 - 1) (q.2 + 2)).any fun c => decide ((r, c) ∈ R)
structure Grow (F R : List Sq) : Prop where
  nd : R.Nodup
  st : (-1, -1) ∈ R
  ok : ∀ x ∈ R, Reach F x
noncomputable def outs (F : List Sq) : List Sq := (grid (-1) 9 (-1) 9).filter fun q => !(decide (q ∈ F))
@[simp] theorem fAdd_l (a b : List D) : fAdd (.lst a) (.lst b) = if a.length + b.length ≤ 1000000 then some (.lst (a ++ b)) else none := rfl
theorem goes_mk {r : R Out} {E : Ev} {P : Ev → Prop} (hp : P E) (h : r = .ok (.nx E)) : Goes r P := by rw [h]; exact hp
noncomputable def rows (pre : List Int) : List Sq := pre.flatMap fun r => (rng (-1) 9).map fun c => (r, c)
theorem rng_pre {a b : Int} {pre : List Int} {x : Int} {post : List Int} (e : rng a b = pre ++ x :: post) : pre.length < (b - a).toNat := by
  have := congrArg List.length e
  rw [rng_length] at this
  simp at this; omega
end M

set_option Elab.async false
set_option linter.all false
set_option maxRecDepth 100000
namespace M
open PySem PySem.Spec PyProof.Rows L2 Ma
noncomputable abbrev Fl := Int × Int × Int
noncomputable abbrev dF (f : Fl) : D := .tup [.int f.1, .int f.2.1, .int f.2.2]
noncomputable abbrev dFL (L : List Fl) : D := .lst (L.map dF)
noncomputable def pos2 (f : Fl) : Sq := (f.1, f.2.1)
noncomputable def mate (f : Fl) : Sq := if f.2.2 = 0 then (f.1, f.2.1 + 1) else (f.1 + 1, f.2.1)
noncomputable def cells (f : Fl) : List Sq := [pos2 f, mate f]
noncomputable def cover (L : List Fl) : List Sq := L.flatMap cells
structure Lay (F : List Sq) (L : List Fl) : Prop where
  ord : L.Pairwise fun a b => Slt (pos2 a) (pos2 b)
  way : ∀ f ∈ L, f.2.2 = 0 ∨ f.2.2 = 1
  cov : (cover L).Perm F
noncomputable def sk (s : Sq) : List Int := [s.1, s.2]
noncomputable def fk (f : Fl) : List Int := [f.1, f.2.1, f.2.2]
noncomputable def unsk (k : List Int) : Sq := (k.getD 0 0, k.getD 1 0)
noncomputable def unfk (k : List Int) : Fl := (k.getD 0 0, k.getD 1 0, k.getD 2 0)
noncomputable def sortS (S : List Sq) : List Sq := (sortK (S.map sk)).map unsk
noncomputable def sortF (S : List Fl) : List Fl := (sortK (S.map fk)).map unfk
theorem map_unsk {l : List (List Int)} {S : List Sq} (h : l.Perm (S.map sk)) : (l.map unsk).map sk = l := by
  rw [List.map_map]
  conv => rhs; rw [← List.map_id l]
  refine List.map_congr_left fun k hk => ?_
  obtain ⟨s, _, rfl⟩ := List.mem_map.mp (h.mem_iff.mp hk)
  rfl
theorem map_unfk {l : List (List Int)} {S : List Fl} (h : l.Perm (S.map fk)) : (l.map unfk).map fk = l := by
  rw [List.map_map]
  conv => rhs; rw [← List.map_id l]
  refine List.map_congr_left fun k hk => ?_
  obtain ⟨s, _, rfl⟩ := List.mem_map.mp (h.mem_iff.mp hk)
  rfl
theorem sortS_sk (S : List Sq) : (sortS S).map sk = sortK (S.map sk) := map_unsk (sortK_perm _)
theorem sortF_fk (S : List Fl) : (sortF S).map fk = sortK (S.map fk) := map_unfk (sortK_perm _)
theorem sortS_perm (S : List Sq) : (sortS S).Perm S := by
  have h := (sortK_perm (S.map sk)).map unsk
  have e : (S.map sk).map unsk = S := by rw [List.map_map, show unsk ∘ sk = id from rfl, List.map_id]
  rw [e] at h; exact h
theorem sortF_perm (S : List Fl) : (sortF S).Perm S := by
  have h := (sortK_perm (S.map fk)).map unfk
  have e : (S.map fk).map unfk = S := by rw [List.map_map, show unfk ∘ fk = id from rfl, List.map_id]
  rw [e] at h; exact h
theorem lexLt_sk (a b : Sq) : HT.lexLt (sk a) (sk b) = decide (Slt a b) := by
  unfold sk
  simp only [HT.lexLt_cons, HT.lexLt_nil_nil]
  unfold Slt
  by_cases h : a.1 = b.1
  · simp [h]; omega
  · simp [h]
noncomputable def Flt (a b : Fl) : Prop := Slt (pos2 a) (pos2 b) ∨ (pos2 a = pos2 b ∧ a.2.2 < b.2.2)
instance (a b : Fl) : Decidable (Flt a b) := by unfold Flt; exact inferInstance
theorem sortS_asc (S : List Sq) : (sortS S).Pairwise fun a b => ¬ Slt b a := by
  have h := sortK_asc (S.map sk)
  rw [← sortS_sk] at h
  unfold Asc at h
  rw [List.pairwise_map] at h
  exact h.imp fun {a b} h => by rw [lexLt_sk] at h; simpa using h
theorem sortS_strict {S : List Sq} (h : S.Nodup) : (sortS S).Pairwise Slt := by
  have h1 := sortS_asc S
  have h2 : (sortS S).Nodup := (sortS_perm S).nodup_iff.mpr h
  have h3 := h1.and h2
  exact h3.imp fun {a b} hh => by
    rcases Slt.tri (a := a) (b := b) with t | t | t
    · exact t
    · exact absurd t hh.2
    · exact absurd t hh.1
theorem sortS_of {S F : List Sq} (h : F.Pairwise Slt) (p : S.Perm F) : sortS S = F := by
  have h1 : (S.map sk).Perm (F.map sk) := p.map sk
  have h2 : Asc (F.map sk) := by
    unfold Asc
    rw [List.pairwise_map]
    refine h.imp fun {a b} hh => ?_
    rw [lexLt_sk]
    simp only [decide_eq_false_iff_not]
    exact fun z => Slt.irr (Slt.trans hh z)
  have h3 : F.map sk = sortK (S.map sk) := sortK_unique h2 h1.symm
  unfold sortS
  rw [← h3, List.map_map]
  conv => rhs; rw [← List.map_id F]
  rfl
theorem dTups_S : ∀ (S : List Sq), dTups (S.map dS) = some (S.map sk)
  | [] => rfl
  | s :: r => by
    rw [List.map_cons]
    unfold dTups
    rw [dTups_S r]; rfl
theorem dTups_F : ∀ (S : List Fl), dTups (S.map dF) = some (S.map fk)
  | [] => rfl
  | s :: r => by
    rw [List.map_cons]
    unfold dTups
    rw [dTups_F r]; rfl
theorem fSort_S (S : List Sq) (h : S.length < 64) : fSort (dL S) = some (dL (sortS S)) := by
  show ((dTups (S.map dS)).bind fun ks => if ks.length < 64 then some (D.lst ((sortK ks).map kT)) else none) = _
  rw [dTups_S]
  simp only [Option.bind_some, List.length_map, h, if_true]
  rw [← sortS_sk, List.map_map]; rfl
theorem fSort_F (S : List Fl) (h : S.length < 64) : fSort (dFL S) = some (dFL (sortF S)) := by
  show ((dTups (S.map dF)).bind fun ks => if ks.length < 64 then some (D.lst ((sortK ks).map kT)) else none) = _
  rw [dTups_F]
  simp only [Option.bind_some, List.length_map, h, if_true]
  rw [← sortF_fk, List.map_map]; rfl
theorem fSortD_D (S : List Sq) (h : S.length < 64) : fSortD (dD S) = some (dL (sortS S)) := by
  show (if (((S.map fun s => ([s.1, s.2], D.bl true))).all fun kv => !kv.1.isEmpty) = true ∧ (S.map fun s => ([s.1, s.2], D.bl true)).length < 64 then some (D.lst ((sortK ((S.map fun s => ([s.1, s.2], D.bl true)).map (·.1))).map kT)) else none) = _
  rw [if_pos ⟨by simp, by simpa using h⟩]
  have e : (S.map fun s => ([s.1, s.2], D.bl true)).map (·.1) = S.map sk := by rw [List.map_map]; rfl
  rw [e, ← sortS_sk, List.map_map]; rfl
@[simp] theorem eqb_F (a b : Fl) : eqb (dF a) (dF b) = decide (a = b) := by
  rcases a with ⟨a1, a2, a3⟩; rcases b with ⟨b1, b2, b3⟩
  simp only [eqb, eqbs, Prod.mk.injEq, Bool.and_true]
  by_cases h : a1 = b1 <;> by_cases h' : a2 = b2 <;> by_cases h'' : a3 = b3 <;> simp [h, h', h'']
theorem pls3_F : ∀ (L : List Fl), pls 3 (L.map dF) = true
  | [] => rfl
  | a :: r => by
    have h1 : pl 3 (dF a) = true := rfl
    have := pls3_F r
    simp [pls, this]
    exact h1
theorem any_F (q : Fl) : ∀ (L : List Fl), ((L.map dF).any fun y => eqb y (dF q)) = decide (q ∈ L)
  | [] => rfl
  | a :: r => by
    rw [List.map_cons, List.any_cons, any_F q r, eqb_F]
    by_cases h : a = q
    · simp [h]
    · have h' : ¬ q = a := fun e => h e.symm
      simp [h, h']
@[simp] theorem fIn_3 (a b c : Int) (L : List Fl) : fIn (.tup [.int a, .int b, .int c]) (dFL L) = some (.bl (decide ((a, b, c) ∈ L))) := by
  show (if (pl 3 (dF (a, b, c)) && pls 3 (L.map dF)) = true then some (D.bl ((L.map dF).any fun y => eqb y (dF (a, b, c)))) else none) = _
  rw [pls3_F, any_F]; rfl
@[simp] theorem fNotIn_3 (a b c : Int) (L : List Fl) : fNotIn (.tup [.int a, .int b, .int c]) (dFL L) = some (.bl (!(decide ((a, b, c) ∈ L)))) := by
  show (if (pl 3 (dF (a, b, c)) && pls 3 (L.map dF)) = true then some (D.bl (!((L.map dF).any fun y => eqb y (dF (a, b, c))))) else none) = _
  rw [pls3_F, any_F]; rfl
theorem eqbs_FL : ∀ (L M : List Fl), eqbs (L.map dF) (M.map dF) = decide (L = M)
  | [], [] => rfl
  | [], b :: r => by simp [eqbs]
  | a :: r, [] => by simp [eqbs]
  | a :: r, b :: s => by
    rw [List.map_cons, List.map_cons, eqbs, eqb_F, eqbs_FL r s]
    by_cases h : a = b <;> by_cases h' : r = s <;> simp [h, h']
theorem pl4_FL (L : List Fl) : pl 4 (dFL L) = true := pls3_F L
@[simp] theorem fEq_FL (L M : List Fl) : fEq (dFL L) (dFL M) = some (.bl (decide (L = M))) := by
  show (if (pl 4 (dFL L) && pl 4 (dFL M)) = true then some (D.bl (eqbs (L.map dF) (M.map dF))) else none) = _
  rw [pl4_FL, pl4_FL, eqbs_FL]; rfl
@[simp] theorem fNe_FL (L M : List Fl) : fNe (dFL L) (dFL M) = some (.bl (!(decide (L = M)))) := by
  show (if (pl 4 (dFL L) && pl 4 (dFL M)) = true then some (D.bl (!(eqbs (L.map dF) (M.map dF)))) else none) = _
  rw [pl4_FL, pl4_FL, eqbs_FL]; rfl
@[simp] theorem fSl_F (a b c : D) : fSl (.tup [a, b, c]) none (some 2) = some (.tup [a, b]) := rfl
theorem zip_mapF (F G : List Fl) : List.zipWith (fun a b => D.tup [a, b]) (F.map dF) (G.map dF) = (F.zip G).map fun p => D.tup [dF p.1, dF p.2] := by
  rw [List.zipWith_map, List.zip, List.map_zipWith]
theorem fAll_m {α : Type} (p : α → Bool) : ∀ l : List α, fAll (.lst (l.map fun x => D.bl (p x))) = some (.bl (l.all p)) := by
  intro l
  have h : ∀ l : List α, bls (l.map fun x => D.bl (p x)) = some (l.map p) := by
    intro l
    induction l with
    | nil => rfl
    | cons x r ih => rw [List.map_cons]; unfold bls; rw [ih]; rfl
  unfold fAll
  dsimp only
  rw [h l]
  simp
end M

set_option Elab.async false
set_option linter.all false
set_option maxRecDepth 100000
namespace M
open PySem PySem.Spec PyProof.Rows L2 Ma
noncomputable def pairAt (s : Sq) (w : Int) : List Fl := if w = 0 then [(s.1 - 1, s.2 - 1, 0), (s.1, s.2 - 1, 0)] else [(s.1 - 1, s.2 - 1, 1), (s.1 - 1, s.2, 1)]
noncomputable def hasP (L : List Fl) (s : Sq) (w : Int) : Bool := (pairAt s w).all fun f => decide (f ∈ L)
noncomputable def slopeOf (L : List Fl) (s : Sq) : Int := if hasP L s (1 - (s.1 + s.2) % 2) then 1 else if hasP L s (1 - (1 - (s.1 + s.2) % 2)) then -1 else 0
theorem mem_cover {L : List Fl} {q : Sq} : q ∈ cover L ↔ ∃ f ∈ L, q = pos2 f ∨ q = mate f := by
  unfold cover cells
  simp [List.mem_flatMap]
end M

set_option Elab.async false
set_option linter.all false
set_option maxRecDepth 100000
namespace M
open PySem PySem.Spec PyProof.Rows L2 Ma
theorem place_lt {top left wide a b : Int} (hw : 0 < wide) (h : a < b) : Slt (top + a / wide, left + a % wide) (top + b / wide, left + b % wide) := by
  unfold Slt
  simp only
  have h1 := Int.emod_add_mul_ediv a wide
  have h2 := Int.emod_add_mul_ediv b wide
  have h3 : a / wide ≤ b / wide := Int.ediv_le_ediv hw (by omega)
  rcases Int.lt_or_eq_of_le h3 with h4 | h4
  · left; omega
  · right
    rw [h4] at h1
    exact ⟨by omega, by omega⟩
structure LInv (high wide top left : Int) (pre : List Int) (L : List Fl) : Prop where
  ord : L.Pairwise fun a b => Slt (pos2 a) (pos2 b)
  at' : ∀ f ∈ L, ∃ k ∈ pre, pos2 f = (top + k / wide, left + k % wide)
  way : ∀ f ∈ L, (f.2.2 = 0 ∧ f.2.1 + 1 < left + wide) ∨ (f.2.2 = 1 ∧ f.1 + 1 < top + high)
  nd : (cover L).Nodup
  len : L.length ≤ pre.length
theorem cover_app (L : List Fl) (f : Fl) : cover (L ++ [f]) = cover L ++ [pos2 f, mate f] := by
  unfold cover; simp [cells]
theorem LInv.same {high wide top left : Int} {pre : List Int} {L : List Fl} (h : LInv high wide top left pre L) (k : Int) : LInv high wide top left (pre ++ [k]) L :=
  ⟨h.ord, fun f hf => by obtain ⟨k', h1, h2⟩ := h.at' f hf; exact ⟨k', by simp [h1], h2⟩, h.way, h.nd, by have := h.len; simp; omega⟩
theorem LInv.new {high wide top left : Int} {pre : List Int} {L : List Fl} (hw : 0 < wide) (h : LInv high wide top left pre L) {k lies : Int} (hk : ∀ k' ∈ pre, k' < k)
    (hl : (lies = 0 ∧ left + k % wide + 1 < left + wide ∧ (top + k / wide, left + k % wide + 1) ∉ cover L) ∨ (lies = 1 ∧ top + k / wide + 1 < top + high)) (hp : (top + k / wide, left + k % wide) ∉ cover L) :
    LInv high wide top left (pre ++ [k]) (L ++ [(top + k / wide, left + k % wide, lies)]) ∧ mate (top + k / wide, left + k % wide, lies) = (top + k / wide + lies, left + k % wide + 1 - lies) ∧ mate (top + k / wide, left + k % wide, lies) ∉ cover L ∧ mate (top + k / wide, left + k % wide, lies) ≠ (top + k / wide, left + k % wide) := by
  have hlt : ∀ f ∈ L, Slt (pos2 f) (top + k / wide, left + k % wide) := fun f hf => by
    obtain ⟨k', h1, h2⟩ := h.at' f hf
    rw [h2]; exact place_lt hw (hk k' h1)
  have hm : mate (top + k / wide, left + k % wide, lies) = (top + k / wide + lies, left + k % wide + 1 - lies) := by
    unfold mate
    rcases hl with ⟨rfl, _⟩ | ⟨rfl, _⟩
    · simp
    · simp
  have hn : mate (top + k / wide, left + k % wide, lies) ∉ cover L := by
    rw [hm]
    rcases hl with ⟨rfl, _, h3⟩ | ⟨rfl, _⟩
    · simpa using h3
    · intro hc
      obtain ⟨f, hf, e⟩ := mem_cover.1 hc
      have hs := hlt f hf
      unfold Slt pos2 at hs
      rcases e with e | e
      · unfold pos2 at e
        simp only [Prod.mk.injEq] at e hs
        omega
      · unfold mate at e
        split at e
        · simp only [Prod.mk.injEq] at e hs; omega
        · simp only [Prod.mk.injEq] at e hs; omega
  have hne : mate (top + k / wide, left + k % wide, lies) ≠ (top + k / wide, left + k % wide) := by
    rw [hm]
    simp only [ne_eq, Prod.mk.injEq]
    rcases hl with ⟨rfl, _⟩ | ⟨rfl, _⟩ <;> omega
  refine ⟨⟨?_, fun f hf => ?_, fun f hf => ?_, ?_, by have := h.len; simp; omega⟩, hm, hn, hne⟩
  · rw [List.pairwise_append]
    refine ⟨h.ord, by simp, fun a ha b hb => ?_⟩
    simp at hb; subst hb
    exact hlt a ha
  · rcases List.mem_append.mp hf with hf | hf
    · obtain ⟨k', h1, h2⟩ := h.at' f hf; exact ⟨k', by simp [h1], h2⟩
    · simp at hf; subst hf; exact ⟨k, by simp, rfl⟩
  · rcases List.mem_append.mp hf with hf | hf
    · exact h.way f hf
    · simp at hf; subst hf
      rcases hl with ⟨rfl, h3, _⟩ | ⟨rfl, h3⟩
      · exact .inl ⟨rfl, h3⟩
      · exact .inr ⟨rfl, h3⟩
  · rw [cover_app, List.nodup_append]
    refine ⟨h.nd, ?_, fun a ha b hb e => ?_⟩
    · simp only [List.nodup_cons, List.mem_singleton, List.not_mem_nil, not_false_eq_true, List.nodup_nil, and_true]
      exact fun e => hne e.symm
    · subst e
      simp only [List.mem_cons, List.not_mem_nil, or_false] at hb
      rcases hb with e | e
      · rw [e] at ha; exact hp ha
      · rw [e] at ha; exact hn ha
structure Drawn (high wide top left : Int) (F : List Sq) (L : List Fl) : Prop where
  fl : IsFloor F
  lay : Lay F L
  len : (F.length : Int) ≤ high * wide
theorem LInv.drawn {high wide top left : Int} {L : List Fl} (hw : 0 < wide) (hh : 0 < high) (ht : 0 ≤ top) (hl : 0 ≤ left) (h1 : top + high ≤ 8) (h2 : left + wide ≤ 8) (h : LInv high wide top left (rng 0 (high * wide)) L) : Drawn high wide top left (sortS (cover L)) L := by
  have hin : ∀ s ∈ cover L, top ≤ s.1 ∧ s.1 < top + high ∧ left ≤ s.2 ∧ s.2 < left + wide := by
    intro s hs
    obtain ⟨f, hf, e⟩ := mem_cover.1 hs
    obtain ⟨k, hk, hp⟩ := h.at' f hf
    rw [mem_rng] at hk
    have a1 : 0 ≤ k / wide := Int.ediv_nonneg hk.1 (by omega)
    have a2 : k / wide < high := Int.ediv_lt_of_lt_mul hw hk.2
    have a3 := Int.emod_nonneg k (show wide ≠ 0 by omega)
    have a4 := Int.emod_lt_of_pos k hw
    have hp1 : f.1 = top + k / wide := congrArg Prod.fst hp
    have hp2 : f.2.1 = left + k % wide := congrArg Prod.snd hp
    have hwy := h.way f hf
    rcases e with e | e
    · rw [e]; unfold pos2; simp only; omega
    · rw [e]; unfold mate
      split
      · simp only; omega
      · simp only; omega
  have hp := sortS_perm (cover L)
  have hnd : (sortS (cover L)).Nodup := hp.nodup_iff.mpr h.nd
  refine ⟨⟨sortS_strict h.nd, fun s hs => ?_⟩, ⟨h.ord, fun f hf => ?_, hp.symm⟩, ?_⟩
  · have := hin s (hp.mem_iff.mp hs)
    unfold OnB; omega
  · rcases h.way f hf with e | e
    · exact .inl e.1
    · exact .inr e.1
  · have := nodup_len (l2 := grid top (top + high) left (left + wide)) hnd fun x hx => mem_grid.2 (hin x (hp.mem_iff.mp hx))
    rw [grid_len_le] at this
    have e1 : (top + high - top).toNat = high.toNat := by omega
    have e2 : (left + wide - left).toNat = wide.toNat := by omega
    rw [e1, e2] at this
    have e3 : ((high.toNat * wide.toNat : Nat) : Int) = high * wide := by
      rw [Int.natCast_mul, Int.toNat_of_nonneg (by omega), Int.toNat_of_nonneg (by omega)]
    omega
end M

set_option Elab.async false
set_option linter.all false
set_option maxRecDepth 100000
namespace M
open PySem PySem.Spec PyProof.Rows L2 Ma
theorem once {q : Sq} : ∀ {L : List Fl}, (cover L).Nodup → ∀ {f g : Fl}, f ∈ L → g ∈ L → q ∈ cells f → q ∈ cells g → f = g
  | [], _, f, _, hf, _, _, _ => by simp at hf
  | x :: r, h, f, g, hf, hg, qf, qg => by
    have e : cover (x :: r) = cells x ++ cover r := by unfold cover; simp
    rw [e, List.nodup_append] at h
    obtain ⟨_, h2, h3⟩ := h
    have inr : ∀ {k : Fl}, k ∈ r → q ∈ cells k → q ∈ cover r := fun hk hq => by unfold cover; exact List.mem_flatMap.mpr ⟨_, hk, hq⟩
    rcases List.mem_cons.mp hf with ef | hf'
    · rcases List.mem_cons.mp hg with eg | hg'
      · rw [ef, eg]
      · rw [ef] at qf; exact absurd rfl (h3 q qf q (inr hg' qg))
    · rcases List.mem_cons.mp hg with eg | hg'
      · rw [eg] at qg; exact absurd rfl (h3 q qg q (inr hf' qf))
      · exact once h2 hf' hg' qf qg
noncomputable def ind (L : List Fl) (f : Fl) : Int := if f ∈ L then 1 else 0
noncomputable def sg (n : Int) : Int := 1 - 2 * (n % 2)
noncomputable def dl (A B : List Fl) (f : Fl) : Int := ind A f - ind B f
noncomputable def hN (A B : List Fl) (r : Int) : Nat → Int
  | 0 => 0
  | n + 1 => hN A B r n + sg (r + (n + 1)) * dl A B (r - 1, n, 1)
noncomputable def ht (A B : List Fl) (r c : Int) : Int := hN A B r c.toNat
section
variable {F : List Sq} {A B : List Fl}
end
end M

set_option Elab.async false
set_option linter.all false
set_option maxRecDepth 100000
namespace M
open PySem PySem.Spec PyProof.Rows L2 Ma
noncomputable def twin (f : Fl) : Fl := (f.1 + 1 - f.2.2, f.2.1 + f.2.2, f.2.2)
noncomputable def tn1 (f : Fl) : Fl := (f.1, f.2.1, 1 - f.2.2)
noncomputable def tn2 (f : Fl) : Fl := (f.1 + f.2.2, f.2.1 + 1 - f.2.2, 1 - f.2.2)
noncomputable def turnOf (L : List Fl) (f : Fl) : List Fl := sortF (L.filter (fun g => !(decide (g = f) || decide (g = twin f))) ++ [tn1 f, tn2 f])
end M

set_option Elab.async false
set_option linter.all false
set_option maxRecDepth 100000
namespace M
open PySem PySem.Spec PyProof.Rows L2 Ma
end M

set_option Elab.async false
set_option linter.all false
set_option maxRecDepth 100000
namespace M
open PySem PySem.Spec PyProof.Rows L2 Ma
structure Form where
  hx : Int → Int → Int
  vy : Int → Int → Int
noncomputable def vs (t : Form) : Nat → Int
  | 0 => 0
  | n + 1 => vs t n + t.vy n 0
noncomputable def hs (t : Form) (r : Int) : Nat → Int
  | 0 => 0
  | n + 1 => hs t r n + t.hx r n
end M

set_option Elab.async false
set_option linter.all false
set_option maxRecDepth 100000
namespace M
open PySem PySem.Spec PyProof.Rows L2 Ma
end M

set_option Elab.async false
set_option linter.all false
set_option maxRecDepth 100000
namespace M
open PySem PySem.Spec PyProof.Rows L2 Ma
end M

set_option Elab.async false
set_option linter.all false
set_option maxRecDepth 100000
namespace M
open PySem PySem.Spec PyProof.Rows L2 Ma
noncomputable def turnAt (A : List Fl) (s : Sq) : List Fl := turnOf A (s.1 - 1, s.2 - 1, if hasP A s 0 then 0 else 1)
end M

set_option Elab.async false
set_option linter.all false
set_option maxRecDepth 100000
namespace M
open PySem PySem.Spec PyProof.Rows L2 Ma
noncomputable def mu (C : List Sq) (A B : List Fl) : Nat := (C.map fun s => (ht A B s.1 s.2).natAbs).sum
structure Cl (cl : Int → Int) : Prop where
  tow : ∀ σ h, (σ = 1 ∨ σ = -1) → 0 < σ * cl h → 0 < σ * h ∧ cl (h - σ) = cl h - σ
  any : ∀ h, cl h ≠ 0 → ∃ σ, (σ = 1 ∨ σ = -1) ∧ 0 < σ * h ∧ ∀ h', 0 < σ * h' → 0 < σ * cl h'
  le : ∀ h, (cl h).natAbs ≤ h.natAbs
inductive Way (cl : Int → Int) (C : List Sq) (B : List Fl) : List Fl → List Sq → List Fl → Prop
  | nil {A} : Way cl C B A [] A
  | snoc {A M A' s} : Way cl C B A M A' → s ∈ C → 0 < slopeOf A' s * cl (ht A' B s.1 s.2) → Way cl C B A (M ++ [s]) (turnAt A' s)
end M

set_option Elab.async false
set_option linter.all false
set_option maxRecDepth 100000
namespace M
open PySem PySem.Spec PyProof.Rows L2 Ma
end M

set_option Elab.async false
set_option linter.all false
set_option maxRecDepth 100000
namespace M
open PySem PySem.Spec PyProof.Rows L2 Ma
end M

set_option Elab.async false
set_option linter.all false
set_option maxRecDepth 100000
namespace M
open PySem PySem.Spec PyProof.Rows L2 Ma
end M

set_option Elab.async false
set_option linter.all false
set_option maxRecDepth 100000
namespace M
open PySem PySem.Spec PyProof.Rows L2 Ma
end M

set_option Elab.async false
set_option linter.all false
set_option maxRecDepth 100000
namespace M
open PySem PySem.Spec PyProof.Rows L2
noncomputable def m_on_board : EX := xRet (eAnd (eCh fLe fLtI (kE (.int 0)) (e2 fIx (vE 0) (kE (.int 0))) (kE (.int 8))) (eCh fLe fLtI (kE (.int 0)) (e2 fIx (vE 0) (kE (.int 1))) (kE (.int 8))))
noncomputable def dn_on_board : List D → R D := den 1 m_on_board
noncomputable def b_check_floor_1 : EX := xIf (bNot (tstB (eCall 1 dn_on_board (aCons (vF 1) (aNil))))) (xNever) (xNil)
noncomputable def b_check_floor_2 : EX := xIf (bNot (tstB (e2 fLt (vE 2) (vE 3)))) (xNever) (xNil)
noncomputable def m_check_floor : EX := xSeq (xFor (iD (vF 0)) (gN 1) (b_check_floor_1)) (xFor (iZ (vF 0) (eSl (vE 0) (oPart (kE (.int 1))) (oNone))) (gT 2 3) (b_check_floor_2))
noncomputable def dn_check_floor : List D → R D := den 4 m_check_floor
noncomputable def m_squares_under : EX := xSeq (xSet 1 (e2 fIx (vE 0) (kE (.int 0)))) (xSeq (xSet 2 (e2 fIx (vE 0) (kE (.int 1)))) (xSeq (xIf (tstB (e2 fEq (e2 fIx (vE 0) (kE (.int 2))) (kE (.int 0)))) (xRet (eLst (aCons (eTup (aCons (vF 1) (aCons (vF 2) (aNil)))) (aCons (eTup (aCons (vF 1) (aCons (e2 fAdd (vE 2) (kE (.int 1))) (aNil)))) (aNil))))) (xNil)) (xRet (eLst (aCons (eTup (aCons (vF 1) (aCons (vF 2) (aNil)))) (aCons (eTup (aCons (e2 fAdd (vE 1) (kE (.int 1))) (aCons (vF 2) (aNil)))) (aNil)))))))
noncomputable def dn_squares_under : List D → R D := den 3 m_squares_under
noncomputable def m_are_in_order : EX := xRet (e1 fAll (eComp [1, 2] (gT 1 2) (iZ (vF 0) (eSl (vE 0) (oPart (kE (.int 1))) (oNone))) (tTrue) (e2 fLt (eSl (vE 1) (oNone) (oPart (kE (.int 2)))) (eSl (vE 2) (oNone) (oPart (kE (.int 2)))))))
noncomputable def dn_are_in_order : List D → R D := den 3 m_are_in_order
noncomputable def b_all_under_1 : EX := xExt 1 (eCall 1 dn_squares_under (aCons (vF 2) (aNil)))
noncomputable def m_all_under : EX := xSeq (xOwn 1 (eLst (aNil))) (xSeq (xFor (iD (vF 0)) (gN 2) (b_all_under_1)) (xRet (e1 fSort (vE 1))))
noncomputable def dn_all_under : List D → R D := den 3 m_all_under
noncomputable def m_is_laying : EX := xSeq (xDo (eCall 1 dn_check_floor (aCons (vF 0) (aNil)))) (xSeq (xIf (bNot (tstB (e1 fAll (eComp [2] (gN 2) (iD (vF 1)) (tTrue) (e2 fIn (e2 fIx (vE 2) (kE (.int 2))) (eTup (aCons (kE (.int 0)) (aCons (kE (.int 1)) (aNil))))))))) (xRet (kE (.bl false))) (xNil)) (xRet (eAnd (eCall 1 dn_are_in_order (aCons (vF 1) (aNil))) (e2 fEq (eCall 1 dn_all_under (aCons (vF 1) (aNil))) (vE 0)))))
noncomputable def dn_is_laying : List D → R D := den 3 m_is_laying
noncomputable def m_law_cell_at : EX := xSeq (xIf (tstB (e2 fLt (vE 1) (e1 fLen (vE 0)))) (xRet (e2 fIx (vE 0) (vE 1))) (xNil)) (xRet (kE (.int 0)))
noncomputable def dn_law_cell_at : List D → R D := den 2 m_law_cell_at
noncomputable def b_law_laid_1 : EX := xSeq (xSet 10 (e2 fAdd (vE 4) (e2 fDiv (vE 9) (vE 3)))) (xSeq (xSet 11 (e2 fAdd (vE 5) (e2 fMod (vE 9) (vE 3)))) (xSeq (xSet 6 (e2 fMod (e2 fMul (vE 6) (kE (.int 48271))) (kE (.int 2147483647)))) (xSeq (xOwn 12 (eLst (aNil))) (xSeq (xIf (bAnd (tstB (e2 fDnotIn (eTup (aCons (vF 10) (aCons (vF 11) (aNil)))) (vE 7))) (tstB (e2 fNe (e2 fMod (e2 fDiv (vE 6) (kE (.int 8))) (kE (.int 8))) (kE (.int 5))))) (xSeq (xIf (bAnd (tstB (e2 fLt (e2 fAdd (vE 11) (kE (.int 1))) (e2 fAdd (vE 5) (vE 3)))) (tstB (e2 fDnotIn (eTup (aCons (vF 10) (aCons (e2 fAdd (vE 11) (kE (.int 1))) (aNil)))) (vE 7)))) (xApp 12 (kE (.int 0))) (xNil)) (xIf (tstB (e2 fLt (e2 fAdd (vE 10) (kE (.int 1))) (e2 fAdd (vE 4) (vE 2)))) (xApp 12 (kE (.int 1))) (xNil))) (xNil)) (xIf (tstB (e2 fGt (e1 fLen (vE 12)) (kE (.int 0)))) (xSeq (xSet 13 (e2 fIx (vE 12) (e2 fMod (e2 fDiv (vE 6) (kE (.int 64))) (e1 fLen (vE 12))))) (xSeq (xApp 8 (eTup (aCons (vF 10) (aCons (vF 11) (aCons (vF 13) (aNil)))))) (xSeq (xDput 7 (eTup (aCons (vF 10) (aCons (vF 11) (aNil)))) (kE (.bl true))) (xDput 7 (eTup (aCons (e2 fAdd (vE 10) (vE 13)) (aCons (e2 fSub (e2 fAdd (vE 11) (kE (.int 1))) (vE 13)) (aNil)))) (kE (.bl true)))))) (xNil))))))
noncomputable def m_law_laid : EX := xSeq (xSet 1 (eCall 2 dn_law_cell_at (aCons (vF 0) (aCons (kE (.int 0)) (aNil))))) (xSeq (xSet 2 (e2 fAdd (kE (.int 1)) (e2 fMod (vE 1) (kE (.int 5))))) (xSeq (xSet 3 (e2 fAdd (kE (.int 1)) (e2 fMod (e2 fDiv (vE 1) (kE (.int 5))) (kE (.int 6))))) (xSeq (xSet 4 (e2 fMod (e2 fDiv (vE 1) (kE (.int 30))) (e2 fSub (kE (.int 9)) (vE 2)))) (xSeq (xSet 5 (e2 fMod (e2 fDiv (vE 1) (kE (.int 240))) (e2 fSub (kE (.int 9)) (vE 3)))) (xSeq (xSet 6 (e2 fAdd (kE (.int 1)) (e2 fMod (eCall 2 dn_law_cell_at (aCons (vF 0) (aCons (kE (.int 1)) (aNil)))) (kE (.int 2147483646))))) (xSeq (xOwn 7 (kE (.dic []))) (xSeq (xOwn 8 (eLst (aNil))) (xSeq (xFor (iR1 (e2 fMul (vE 2) (vE 3))) (gN 9) (b_law_laid_1)) (xFrz 8 (xRet (eTup (aCons (e1 fSortD (vE 7)) (aCons (vF 8) (aNil))))))))))))))
noncomputable def dn_law_laid : List D → R D := den 14 m_law_laid
noncomputable def m_law_spoilt : EX := xSeq (xSet 3 (e2 fIx (vE 0) (vE 2))) (xSeq (xSet 4 (eSl (vE 0) (oNone) (oPart (vE 2)))) (xSeq (xSet 5 (eSl (vE 0) (oPart (e2 fAdd (vE 2) (kE (.int 1)))) (oNone))) (xSeq (xIf (tstB (e2 fEq (vE 1) (kE (.int 1)))) (xRet (e2 fAdd (vE 4) (vE 5))) (xNil)) (xSeq (xIf (tstB (e2 fEq (vE 1) (kE (.int 2)))) (xRet (e2 fAdd (e2 fAdd (vE 4) (eLst (aCons (vF 3) (aCons (vF 3) (aNil))))) (vE 5))) (xNil)) (xSeq (xIf (tstB (e2 fEq (vE 1) (kE (.int 3)))) (xRet (e2 fAdd (e2 fAdd (e2 fAdd (vE 4) (eSl (vE 5) (oNone) (oPart (kE (.int 1))))) (eLst (aCons (vF 3) (aNil)))) (eSl (vE 5) (oPart (kE (.int 1))) (oNone)))) (xNil)) (xSeq (xIf (tstB (e2 fEq (vE 1) (kE (.int 4)))) (xRet (e2 fAdd (e2 fAdd (vE 4) (eLst (aCons (eTup (aCons (e2 fIx (vE 3) (kE (.int 0))) (aCons (e2 fIx (vE 3) (kE (.int 1))) (aCons (e2 fSub (kE (.int 1)) (e2 fIx (vE 3) (kE (.int 2)))) (aNil))))) (aNil)))) (vE 5))) (xNil)) (xSeq (xIf (tstB (e2 fEq (vE 1) (kE (.int 5)))) (xRet (e2 fAdd (e2 fAdd (vE 4) (eLst (aCons (eTup (aCons (e2 fIx (vE 3) (kE (.int 0))) (aCons (e2 fIx (vE 3) (kE (.int 1))) (aCons (e2 fIx (eLst (aCons (kE (.int 2)) (aCons (e1 fNeg (kE (.int 1))) (aNil)))) (e2 fMod (vE 2) (kE (.int 2)))) (aNil))))) (aNil)))) (vE 5))) (xNil)) (xSeq (xIf (tstB (e2 fEq (vE 1) (kE (.int 6)))) (xRet (e2 fAdd (e2 fAdd (vE 4) (eLst (aCons (eTup (aCons (e2 fAdd (e2 fIx (vE 3) (kE (.int 0))) (kE (.int 1))) (aCons (e2 fIx (vE 3) (kE (.int 1))) (aCons (e2 fIx (vE 3) (kE (.int 2))) (aNil))))) (aNil)))) (vE 5))) (xNil)) (xSeq (xIf (tstB (e2 fEq (vE 1) (kE (.int 7)))) (xRet (e2 fAdd (vE 0) (eLst (aCons (eTup (aCons (e2 fAdd (e2 fIx (e2 fIx (vE 0) (e1 fNeg (kE (.int 1)))) (kE (.int 0))) (kE (.int 2))) (aCons (e2 fIx (e2 fIx (vE 0) (e1 fNeg (kE (.int 1)))) (kE (.int 1))) (aCons (e2 fIx (vE 3) (kE (.int 2))) (aNil))))) (aNil))))) (xNil)) (xSeq (xIf (tstB (e2 fEq (vE 1) (kE (.int 8)))) (xRet (e2 fAdd (eLst (aCons (eTup (aCons (e2 fSub (e2 fSub (e2 fIx (e2 fIx (vE 0) (kE (.int 0))) (kE (.int 0))) (kE (.int 8))) (e2 fDiv (vE 2) (kE (.int 2)))) (aCons (e2 fIx (e2 fIx (vE 0) (kE (.int 0))) (kE (.int 1))) (aCons (e2 fIx (e2 fIx (vE 0) (kE (.int 0))) (kE (.int 2))) (aNil))))) (aNil))) (eSl (vE 0) (oPart (kE (.int 1))) (oNone)))) (xNil)) (xSeq (xIf (tstB (e2 fEq (vE 1) (kE (.int 9)))) (xRet (e2 fAdd (eLst (aCons (eTup (aCons (e2 fIx (e2 fIx (vE 0) (kE (.int 0))) (kE (.int 0))) (aCons (e2 fSub (e2 fSub (e2 fIx (e2 fIx (vE 0) (kE (.int 0))) (kE (.int 1))) (kE (.int 8))) (e2 fDiv (vE 2) (kE (.int 2)))) (aCons (e2 fIx (e2 fIx (vE 0) (kE (.int 0))) (kE (.int 2))) (aNil))))) (aNil))) (eSl (vE 0) (oPart (kE (.int 1))) (oNone)))) (xNil)) (xRet (vF 0)))))))))))))
noncomputable def dn_law_spoilt : List D → R D := den 6 m_law_spoilt
noncomputable def b_law_fits_1 : EX := xSeq (xSet 4 (e2 fIx (e2 fIx (vE 1) (vE 3)) (kE (.int 0)))) (xSeq (xSet 5 (e2 fIx (e2 fIx (vE 1) (vE 3)) (kE (.int 1)))) (xSeq (xSet 6 (e2 fIx (e2 fIx (vE 1) (vE 3)) (kE (.int 2)))) (xSeq (xIf (bOr (bAnd (tstB (e2 fNe (vE 6) (kE (.int 0)))) (tstB (e2 fNe (vE 6) (kE (.int 1))))) (bAnd (tstB (e2 fGt (vE 3) (kE (.int 0)))) (tstB (e2 fGe (eSl (e2 fIx (vE 1) (e2 fSub (vE 3) (kE (.int 1)))) (oNone) (oPart (kE (.int 2)))) (eSl (e2 fIx (vE 1) (vE 3)) (oNone) (oPart (kE (.int 2)))))))) (xRet (kE (.bl false))) (xNil)) (xSet 2 (e2 fAdd (vE 2) (eLst (aCons (eTup (aCons (vF 4) (aCons (vF 5) (aNil)))) (aCons (eTup (aCons (e2 fAdd (vE 4) (vE 6)) (aCons (e2 fSub (e2 fAdd (vE 5) (kE (.int 1))) (vE 6)) (aNil)))) (aNil)))))))))
noncomputable def m_law_fits : EX := xSeq (xSet 2 (eLst (aNil))) (xSeq (xFor (iR1 (e1 fLen (vE 1))) (gN 3) (b_law_fits_1)) (xRet (e2 fEq (e1 fSort (vE 2)) (vE 0))))
noncomputable def dn_law_fits : List D → R D := den 7 m_law_fits
noncomputable def m_law : EX := xSeq (xSet 1 (eCall 1 dn_law_laid (aCons (vF 0) (aNil)))) (xSeq (xSet 2 (e2 fIx (vE 1) (kE (.int 0)))) (xSeq (xSet 3 (e2 fIx (vE 1) (kE (.int 1)))) (xSeq (xIf (tstB (e2 fGt (e1 fLen (vE 3)) (kE (.int 0)))) (xSet 3 (eCall 3 dn_law_spoilt (aCons (vF 3) (aCons (e2 fMod (eCall 2 dn_law_cell_at (aCons (vF 0) (aCons (kE (.int 2)) (aNil)))) (kE (.int 10))) (aCons (e2 fMod (eCall 2 dn_law_cell_at (aCons (vF 0) (aCons (kE (.int 3)) (aNil)))) (e1 fLen (vE 3))) (aNil)))))) (xNil)) (xSeq (xSet 4 (e2 fMod (eCall 2 dn_law_cell_at (aCons (vF 0) (aCons (kE (.int 5)) (aNil)))) (kE (.int 7)))) (xSeq (xIf (tstB (e2 fEq (e2 fMod (eCall 2 dn_law_cell_at (aCons (vF 0) (aCons (kE (.int 4)) (aNil)))) (kE (.int 5))) (kE (.int 1)))) (xSeq (xSet 2 (e1 fSortSet (e2 fAdd (vE 2) (eLst (aCons (eTup (aCons (vF 4) (aCons (kE (.int 7)) (aNil)))) (aCons (eTup (aCons (e2 fAdd (vE 4) (kE (.int 1))) (aCons (kE (.int 0)) (aNil)))) (aNil))))))) (xSet 3 (e1 fSort (e2 fAdd (eComp [5] (gN 5) (iD (e2 fIx (vE 1) (kE (.int 1)))) (tstB (e2 fNe (eSl (vE 5) (oNone) (oPart (kE (.int 2)))) (eTup (aCons (vF 4) (aCons (kE (.int 7)) (aNil)))))) (vF 5)) (eLst (aCons (eTup (aCons (vF 4) (aCons (kE (.int 7)) (aCons (kE (.int 0)) (aNil))))) (aNil))))))) (xNil)) (xSeq (xSet 6 (e1 fList (vE 2))) (xSeq (xSet 7 (e1 fList (vE 3))) (xSeq (xSet 8 (eCall 2 dn_is_laying (aCons (vF 6) (aCons (vF 7) (aNil))))) (xSeq (xIf (bOr (bNot (tstB (e1 (fIsi .bool) (vE 8)))) (bOr (tstB (e2 fNe (vE 6) (vE 2))) (tstB (e2 fNe (vE 7) (vE 3))))) (xRet (kE (.bl false))) (xNil)) (xRet (e2 fEq (vE 8) (eCall 2 dn_law_fits (aCons (vF 2) (aCons (vF 3) (aNil)))))))))))))))
noncomputable def dn_law : List D → R D := den 9 m_law
end M

set_option Elab.async false
set_option linter.all false
set_option maxHeartbeats 1000000
namespace M
open PySem PySem.Spec PyProof.Rows L2 Ma
theorem seq_nx {m n : EX} {E E' : Ev} {r : R Out} (h : m E = .ok (.nx E')) (h2 : n E' = r) : xSeq m n E = r := by
  unfold xSeq; rw [h]; exact h2
theorem seq_rt {m n : EX} {E : Ev} {d : D} (h : m E = .ok (.rt d)) : xSeq m n E = .ok (.rt d) := by
  unfold xSeq; rw [h]; rfl
theorem seqP {m n : EX} {E : Ev} (E' : Ev) (P : R Out → Prop) (h : m E = .ok (.nx E')) (h2 : P (n E')) : P (xSeq m n E) := by
  unfold xSeq; rw [h]; exact h2
theorem lay_len {F : List Sq} {L : List Fl} (h : Lay F L) (hl : F.length < 64) : L.length < 32 := by
  have : (cover L).length = 2 * L.length := by
    unfold cover; rw [List.length_flatMap]; simp only [cells, List.length_cons, List.length_nil, List.map_const', List.sum_replicate_nat]; omega
  have := h.cov.length_eq
  omega
theorem set_ok {i : Nat} {m : EV} {E : Ev} {d : D} (h : m E = .ok d) : xSet i m E = .ok (.nx (E.set i (.fz d))) := by
  unfold xSet; rw [h]; rfl
theorem if_nil {t : Ev → R Bool} {a : EX} {E : Ev} (h : t E = .ok false) : xIf t a xNil E = .ok (.nx E) := by
  unfold xIf; rw [h]; rfl
theorem or_ff {s t : Ev → R Bool} {E : Ev} (h : s E = .ok false) (h' : t E = .ok false) : bOr s t E = .ok false := by
  unfold bOr; rw [h]; exact h'
theorem not_ff {t : Ev → R Bool} {E : Ev} (h : t E = .ok true) : bNot t E = .ok false := by
  unfold bNot; rw [h]; rfl
theorem tst_ok {m : EV} {E : Ev} {b : Bool} (h : m E = .ok (.bl b)) : tstB m E = .ok b := by
  unfold tstB; rw [h]; rfl
@[simp high] theorem vE_f0 (d : D) (r : Ev) : vE 0 (.fz d :: r) = .ok d := rfl
@[simp high] theorem vE_o0 (d : D) (r : Ev) : vE 0 (.ow d :: r) = .ok d := rfl
@[simp high] theorem vF_f0 (d : D) (r : Ev) : vF 0 (.fz d :: r) = .ok d := rfl
@[simp high] theorem vE_f1 (x0 : Sl) (d : D) (r : Ev) : vE 1 (x0 :: .fz d :: r) = .ok d := rfl
@[simp high] theorem vE_o1 (x0 : Sl) (d : D) (r : Ev) : vE 1 (x0 :: .ow d :: r) = .ok d := rfl
@[simp high] theorem vF_f1 (x0 : Sl) (d : D) (r : Ev) : vF 1 (x0 :: .fz d :: r) = .ok d := rfl
@[simp high] theorem vE_f2 (x0 x1 : Sl) (d : D) (r : Ev) : vE 2 (x0 :: x1 :: .fz d :: r) = .ok d := rfl
@[simp high] theorem vE_o2 (x0 x1 : Sl) (d : D) (r : Ev) : vE 2 (x0 :: x1 :: .ow d :: r) = .ok d := rfl
@[simp high] theorem vF_f2 (x0 x1 : Sl) (d : D) (r : Ev) : vF 2 (x0 :: x1 :: .fz d :: r) = .ok d := rfl
@[simp high] theorem vE_f3 (x0 x1 x2 : Sl) (d : D) (r : Ev) : vE 3 (x0 :: x1 :: x2 :: .fz d :: r) = .ok d := rfl
@[simp high] theorem vE_o3 (x0 x1 x2 : Sl) (d : D) (r : Ev) : vE 3 (x0 :: x1 :: x2 :: .ow d :: r) = .ok d := rfl
@[simp high] theorem vF_f3 (x0 x1 x2 : Sl) (d : D) (r : Ev) : vF 3 (x0 :: x1 :: x2 :: .fz d :: r) = .ok d := rfl
@[simp high] theorem vE_f4 (x0 x1 x2 x3 : Sl) (d : D) (r : Ev) : vE 4 (x0 :: x1 :: x2 :: x3 :: .fz d :: r) = .ok d := rfl
@[simp high] theorem vE_o4 (x0 x1 x2 x3 : Sl) (d : D) (r : Ev) : vE 4 (x0 :: x1 :: x2 :: x3 :: .ow d :: r) = .ok d := rfl
@[simp high] theorem vF_f4 (x0 x1 x2 x3 : Sl) (d : D) (r : Ev) : vF 4 (x0 :: x1 :: x2 :: x3 :: .fz d :: r) = .ok d := rfl
@[simp high] theorem vE_f5 (x0 x1 x2 x3 x4 : Sl) (d : D) (r : Ev) : vE 5 (x0 :: x1 :: x2 :: x3 :: x4 :: .fz d :: r) = .ok d := rfl
@[simp high] theorem vE_o5 (x0 x1 x2 x3 x4 : Sl) (d : D) (r : Ev) : vE 5 (x0 :: x1 :: x2 :: x3 :: x4 :: .ow d :: r) = .ok d := rfl
@[simp high] theorem vF_f5 (x0 x1 x2 x3 x4 : Sl) (d : D) (r : Ev) : vF 5 (x0 :: x1 :: x2 :: x3 :: x4 :: .fz d :: r) = .ok d := rfl
@[simp high] theorem vE_f6 (x0 x1 x2 x3 x4 x5 : Sl) (d : D) (r : Ev) : vE 6 (x0 :: x1 :: x2 :: x3 :: x4 :: x5 :: .fz d :: r) = .ok d := rfl
@[simp high] theorem vE_o6 (x0 x1 x2 x3 x4 x5 : Sl) (d : D) (r : Ev) : vE 6 (x0 :: x1 :: x2 :: x3 :: x4 :: x5 :: .ow d :: r) = .ok d := rfl
@[simp high] theorem vF_f6 (x0 x1 x2 x3 x4 x5 : Sl) (d : D) (r : Ev) : vF 6 (x0 :: x1 :: x2 :: x3 :: x4 :: x5 :: .fz d :: r) = .ok d := rfl
@[simp high] theorem vE_f7 (x0 x1 x2 x3 x4 x5 x6 : Sl) (d : D) (r : Ev) : vE 7 (x0 :: x1 :: x2 :: x3 :: x4 :: x5 :: x6 :: .fz d :: r) = .ok d := rfl
@[simp high] theorem vE_o7 (x0 x1 x2 x3 x4 x5 x6 : Sl) (d : D) (r : Ev) : vE 7 (x0 :: x1 :: x2 :: x3 :: x4 :: x5 :: x6 :: .ow d :: r) = .ok d := rfl
@[simp high] theorem vF_f7 (x0 x1 x2 x3 x4 x5 x6 : Sl) (d : D) (r : Ev) : vF 7 (x0 :: x1 :: x2 :: x3 :: x4 :: x5 :: x6 :: .fz d :: r) = .ok d := rfl
@[simp high] theorem vE_f8 (x0 x1 x2 x3 x4 x5 x6 x7 : Sl) (d : D) (r : Ev) : vE 8 (x0 :: x1 :: x2 :: x3 :: x4 :: x5 :: x6 :: x7 :: .fz d :: r) = .ok d := rfl
@[simp high] theorem vE_o8 (x0 x1 x2 x3 x4 x5 x6 x7 : Sl) (d : D) (r : Ev) : vE 8 (x0 :: x1 :: x2 :: x3 :: x4 :: x5 :: x6 :: x7 :: .ow d :: r) = .ok d := rfl
@[simp high] theorem vF_f8 (x0 x1 x2 x3 x4 x5 x6 x7 : Sl) (d : D) (r : Ev) : vF 8 (x0 :: x1 :: x2 :: x3 :: x4 :: x5 :: x6 :: x7 :: .fz d :: r) = .ok d := rfl
@[simp high] theorem vE_f9 (x0 x1 x2 x3 x4 x5 x6 x7 x8 : Sl) (d : D) (r : Ev) : vE 9 (x0 :: x1 :: x2 :: x3 :: x4 :: x5 :: x6 :: x7 :: x8 :: .fz d :: r) = .ok d := rfl
@[simp high] theorem vE_o9 (x0 x1 x2 x3 x4 x5 x6 x7 x8 : Sl) (d : D) (r : Ev) : vE 9 (x0 :: x1 :: x2 :: x3 :: x4 :: x5 :: x6 :: x7 :: x8 :: .ow d :: r) = .ok d := rfl
@[simp high] theorem vF_f9 (x0 x1 x2 x3 x4 x5 x6 x7 x8 : Sl) (d : D) (r : Ev) : vF 9 (x0 :: x1 :: x2 :: x3 :: x4 :: x5 :: x6 :: x7 :: x8 :: .fz d :: r) = .ok d := rfl
@[simp high] theorem vE_f10 (x0 x1 x2 x3 x4 x5 x6 x7 x8 x9 : Sl) (d : D) (r : Ev) : vE 10 (x0 :: x1 :: x2 :: x3 :: x4 :: x5 :: x6 :: x7 :: x8 :: x9 :: .fz d :: r) = .ok d := rfl
@[simp high] theorem vE_o10 (x0 x1 x2 x3 x4 x5 x6 x7 x8 x9 : Sl) (d : D) (r : Ev) : vE 10 (x0 :: x1 :: x2 :: x3 :: x4 :: x5 :: x6 :: x7 :: x8 :: x9 :: .ow d :: r) = .ok d := rfl
@[simp high] theorem vF_f10 (x0 x1 x2 x3 x4 x5 x6 x7 x8 x9 : Sl) (d : D) (r : Ev) : vF 10 (x0 :: x1 :: x2 :: x3 :: x4 :: x5 :: x6 :: x7 :: x8 :: x9 :: .fz d :: r) = .ok d := rfl
@[simp high] theorem vE_f11 (x0 x1 x2 x3 x4 x5 x6 x7 x8 x9 x10 : Sl) (d : D) (r : Ev) : vE 11 (x0 :: x1 :: x2 :: x3 :: x4 :: x5 :: x6 :: x7 :: x8 :: x9 :: x10 :: .fz d :: r) = .ok d := rfl
@[simp high] theorem vE_o11 (x0 x1 x2 x3 x4 x5 x6 x7 x8 x9 x10 : Sl) (d : D) (r : Ev) : vE 11 (x0 :: x1 :: x2 :: x3 :: x4 :: x5 :: x6 :: x7 :: x8 :: x9 :: x10 :: .ow d :: r) = .ok d := rfl
@[simp high] theorem vF_f11 (x0 x1 x2 x3 x4 x5 x6 x7 x8 x9 x10 : Sl) (d : D) (r : Ev) : vF 11 (x0 :: x1 :: x2 :: x3 :: x4 :: x5 :: x6 :: x7 :: x8 :: x9 :: x10 :: .fz d :: r) = .ok d := rfl
@[simp high] theorem vE_f12 (x0 x1 x2 x3 x4 x5 x6 x7 x8 x9 x10 x11 : Sl) (d : D) (r : Ev) : vE 12 (x0 :: x1 :: x2 :: x3 :: x4 :: x5 :: x6 :: x7 :: x8 :: x9 :: x10 :: x11 :: .fz d :: r) = .ok d := rfl
@[simp high] theorem vE_o12 (x0 x1 x2 x3 x4 x5 x6 x7 x8 x9 x10 x11 : Sl) (d : D) (r : Ev) : vE 12 (x0 :: x1 :: x2 :: x3 :: x4 :: x5 :: x6 :: x7 :: x8 :: x9 :: x10 :: x11 :: .ow d :: r) = .ok d := rfl
@[simp high] theorem vF_f12 (x0 x1 x2 x3 x4 x5 x6 x7 x8 x9 x10 x11 : Sl) (d : D) (r : Ev) : vF 12 (x0 :: x1 :: x2 :: x3 :: x4 :: x5 :: x6 :: x7 :: x8 :: x9 :: x10 :: x11 :: .fz d :: r) = .ok d := rfl
@[simp high] theorem vE_f13 (x0 x1 x2 x3 x4 x5 x6 x7 x8 x9 x10 x11 x12 : Sl) (d : D) (r : Ev) : vE 13 (x0 :: x1 :: x2 :: x3 :: x4 :: x5 :: x6 :: x7 :: x8 :: x9 :: x10 :: x11 :: x12 :: .fz d :: r) = .ok d := rfl
@[simp high] theorem vE_o13 (x0 x1 x2 x3 x4 x5 x6 x7 x8 x9 x10 x11 x12 : Sl) (d : D) (r : Ev) : vE 13 (x0 :: x1 :: x2 :: x3 :: x4 :: x5 :: x6 :: x7 :: x8 :: x9 :: x10 :: x11 :: x12 :: .ow d :: r) = .ok d := rfl
@[simp high] theorem vF_f13 (x0 x1 x2 x3 x4 x5 x6 x7 x8 x9 x10 x11 x12 : Sl) (d : D) (r : Ev) : vF 13 (x0 :: x1 :: x2 :: x3 :: x4 :: x5 :: x6 :: x7 :: x8 :: x9 :: x10 :: x11 :: x12 :: .fz d :: r) = .ok d := rfl
theorem on_board_d (s : Sq) : dn_on_board [dS s] = .ok (.bl (decide (OnB s))) := by
  unfold dn_on_board m_on_board
  simp
  by_cases h1 : 0 ≤ s.1 <;> by_cases h2 : s.1 < 8 <;> by_cases h3 : 0 ≤ s.2 <;> simp [h1, h2, h3, OnB]
theorem check_floor_d {F : List Sq} (h : IsFloor F) : dn_check_floor [dL F] = .ok .non := by
  unfold dn_check_floor m_check_floor
  obtain ⟨E1, e1, t1, rfl⟩ := forL_fold (set := gN 1) (b := b_check_floor_1) dS (fun (_ : Unit) _ => ()) (fun _ E => ∃ t, E = [.fz (dL F), t, .un, .un]) F () [.fz (dL F), .un, .un, .un] (by
    rintro _ E ⟨t, rfl⟩ x hx
    refine ⟨_, rfl, ?_⟩
    simp [b_check_floor_1, on_board_d, h.on x hx]) ⟨_, rfl⟩
  obtain ⟨E2, e2, t2, t3, rfl⟩ := forL_fold (set := gT 2 3) (b := b_check_floor_2) (fun p : Sq × Sq => D.tup [dS p.1, dS p.2]) (fun (_ : Unit) _ => ()) (fun _ E => ∃ t t', E = [.fz (dL F), t1, t, t']) (F.zip (F.drop 1)) () [.fz (dL F), t1, .un, .un] (by
    rintro _ E ⟨t, t', rfl⟩ x hx
    refine ⟨_, rfl, ?_⟩
    simp [b_check_floor_2, pairs_lt h.ord x hx]) ⟨_, _, rfl⟩
  simp [e1]
  rw [← List.drop_one, ← List.map_drop, zip_map2, e2]
  rfl
theorem cell_d (ns : List Int) (k : Nat) : dn_law_cell_at [.scr ns, .int k] = .ok (.int (ns.getD k 0)) := by
  unfold dn_law_cell_at m_law_cell_at
  simp
  by_cases h : k < ns.length
  · have : fIx (.scr ns) (.int k) = some (.int ns[k]) := by
      show (atI ns (k : Int)).map D.int = _
      rw [atI_nat (x := ns[k]) (by simp [h])]; rfl
    simp [h, this]
  · simp [h]
theorem squares_under_d (f : Fl) : dn_squares_under [dF f] = .ok (dL (cells f)) := by
  unfold dn_squares_under m_squares_under
  by_cases h : f.2.2 = 0
  · simp [h, cells, pos2, mate]
  · simp [h, cells, pos2, mate]
noncomputable def inOrd (L : List Fl) : Bool := (L.zip (L.drop 1)).all fun p => decide (Slt (pos2 p.1) (pos2 p.2))
theorem are_in_order_d (L : List Fl) (hl : L.length ≤ 1000) : dn_are_in_order [dFL L] = .ok (.bl (inOrd L)) := by
  unfold dn_are_in_order m_are_in_order
  simp [noOw]
  rw [← List.drop_one, ← List.map_drop, zip_mapF, if_pos (by omega), compL_map (fun p : Fl × Fl => D.tup [dF p.1, dF p.2]) (fun p => D.bl (decide (Slt (pos2 p.1) (pos2 p.2)))) _ (fun p hp => ⟨_, rfl, by simp [clr]; rfl⟩)]
  simp only [R.ok_bind]
  rw [fAll_m (fun p : Fl × Fl => decide (Slt (pos2 p.1) (pos2 p.2)))]
  rfl
theorem all_under_d (L : List Fl) (hl : (cover L).length < 64) : dn_all_under [dFL L] = .ok (dL (sortS (cover L))) := by
  unfold dn_all_under m_all_under
  obtain ⟨E1, e1, t2, rfl⟩ := forL_pre (set := gN 2) (b := b_all_under_1) dF (fun (pre : List Fl) E => ∃ t2, E = [.fz (dFL L), .ow (dL (cover pre)), t2]) L (by
    rintro pre f post epre E ⟨t2, rfl⟩
    refine ⟨_, rfl, ?_⟩
    have lc : (cover pre).length < 64 := by
      rw [epre] at hl
      unfold cover at hl ⊢
      simp at hl ⊢; omega
    refine goes_mk (E := [.fz (dFL L), .ow (dL (cover (pre ++ [f]))), .fz (dF f)]) ⟨_, rfl⟩ ?_
    have e2 : cover (pre ++ [f]) = cover pre ++ cells f := by unfold cover; simp
    have l2 : (cells f).length = 2 := rfl
    have l3 : (cover pre).length + 2 < 1000000 := by omega
    rw [e2]
    simp [b_all_under_1, squares_under_d, l2, l3]) [.fz (dFL L), .ow (dL []), .un] ⟨_, rfl⟩
  simp
  show ended (forL (gN 2) b_all_under_1 (List.map dF L) [.fz (dFL L), .ow (dL []), .un] >>= _) = _
  rw [e1]
  simp
  rw [fSort_S _ hl]
  rfl
theorem is_laying_d {F : List Sq} (hF : IsFloor F) (L : List Fl) (hl : (cover L).length < 64) : dn_is_laying [dL F, dFL L] = .ok (.bl ((L.all fun f => decide (f.2.2 = 0 ∨ f.2.2 = 1)) && (inOrd L && decide (sortS (cover L) = F)))) := by
  have ll : L.length < 64 := by
    have : (cover L).length = 2 * L.length := by
      unfold cover; rw [List.length_flatMap]; simp only [cells, List.length_cons, List.length_nil, List.map_const', List.sum_replicate_nat]; omega
    omega
  generalize hA : (L.all fun f => decide (f.2.2 = 0 ∨ f.2.2 = 1)) = A
  unfold dn_is_laying m_is_laying
  simp [noOw, check_floor_d hF]
  rw [if_pos (by omega), compL_map dF (fun f : Fl => D.bl (decide (f.2.2 = 0 ∨ f.2.2 = 1))) L (fun f hf => ⟨_, rfl, by
    have hin : fIn (.int f.2.2) (.tup [.int 0, .int 1]) = some (.bl (decide (f.2.2 = 0 ∨ f.2.2 = 1))) := by
      show some (D.bl _) = _
      congr 2
      simp [eqb]
      by_cases h0 : f.2.2 = 0 <;> by_cases h1 : f.2.2 = 1 <;> simp [h0, h1] <;> omega
    simp [clr, hin]⟩)]
  simp only [R.ok_bind]
  rw [fAll_m (fun f : Fl => decide (f.2.2 = 0 ∨ f.2.2 = 1)), hA]
  cases A with
  | true => simp [are_in_order_d L (by omega), all_under_d L hl]
  | false => simp
theorem inOrd_of {L : List Fl} (h : L.Pairwise fun a b => Slt (pos2 a) (pos2 b)) : inOrd L = true := by
  unfold inOrd
  rw [List.all_eq_true]
  intro p hp
  obtain ⟨i, hi, e⟩ := List.mem_iff_getElem.mp hp
  rw [List.pairwise_iff_getElem] at h
  simp at hi
  have := h i (i + 1) (by omega) (by omega) (by omega)
  rw [← e]
  simp only [List.getElem_zip, List.getElem_drop, Nat.add_comm 1 i]
  simpa using this
theorem Lay.len {F : List Sq} {L : List Fl} (h : Lay F L) : (cover L).length = F.length := h.cov.length_eq
theorem is_laying_t {F : List Sq} (hF : IsFloor F) {L : List Fl} (h : Lay F L) (hl : F.length < 64) : dn_is_laying [dL F, dFL L] = .ok (.bl true) := by
  rw [is_laying_d hF L (by rw [h.len]; exact hl), inOrd_of h.ord, sortS_of hF.ord h.cov]
  have : (L.all fun f => decide (f.2.2 = 0 ∨ f.2.2 = 1)) = true := by
    rw [List.all_eq_true]; intro f hf; simpa using h.way f hf
  rw [this]
  simp
theorem laid_step (s0 s1 t10 t11 t12 t13 : Sl) (high wide top left nb k : Int) (S : List Sq) (L : List Fl) (hw : 0 < wide) (hw2 : wide < 1073741824) (lS : S.length < 1000) (lL : L.length < 1000) :
    (∃ u12 u13, b_law_laid_1 [s0, s1, .fz (.int high), .fz (.int wide), .fz (.int top), .fz (.int left), .fz (.int nb), .ow (dD S), .ow (dFL L), .fz (.int k), t10, t11, t12, t13] =
      .ok (.nx [s0, s1, .fz (.int high), .fz (.int wide), .fz (.int top), .fz (.int left), .fz (.int (nb * 48271 % 2147483647)), .ow (dD S), .ow (dFL L), .fz (.int k), .fz (.int (top + k / wide)), .fz (.int (left + k % wide)), u12, u13])) ∨
    (∃ lies u12 u13, (lies = 0 ∧ left + k % wide + 1 < left + wide ∧ (top + k / wide, left + k % wide + 1) ∉ S ∨ lies = 1 ∧ top + k / wide + 1 < top + high) ∧ (top + k / wide, left + k % wide) ∉ S ∧
      b_law_laid_1 [s0, s1, .fz (.int high), .fz (.int wide), .fz (.int top), .fz (.int left), .fz (.int nb), .ow (dD S), .ow (dFL L), .fz (.int k), t10, t11, t12, t13] =
      .ok (.nx [s0, s1, .fz (.int high), .fz (.int wide), .fz (.int top), .fz (.int left), .fz (.int (nb * 48271 % 2147483647)),
        .ow (.dic (dput (dput (S.map fun s => ([s.1, s.2], D.bl true)) [top + k / wide, left + k % wide] (.bl true)) [top + k / wide + lies, left + k % wide + 1 - lies] (.bl true))),
        .ow (dFL (L ++ [(top + k / wide, left + k % wide, lies)])), .fz (.int k), .fz (.int (top + k / wide)), .fz (.int (left + k % wide)), u12, u13])) := by
  generalize hr : top + k / wide = row
  generalize hc : left + k % wide = col
  generalize hn : nb * 48271 % 2147483647 = nc
  let P : R Out → Prop := fun x => (∃ u12 u13, x = .ok (.nx [s0, s1, .fz (.int high), .fz (.int wide), .fz (.int top), .fz (.int left), .fz (.int nc), .ow (dD S), .ow (dFL L), .fz (.int k), .fz (.int row), .fz (.int col), u12, u13])) ∨
    (∃ lies u12 u13, (lies = 0 ∧ col + 1 < left + wide ∧ (row, col + 1) ∉ S ∨ lies = 1 ∧ row + 1 < top + high) ∧ (row, col) ∉ S ∧
      x = .ok (.nx [s0, s1, .fz (.int high), .fz (.int wide), .fz (.int top), .fz (.int left), .fz (.int nc),
        .ow (.dic (dput (dput (S.map fun s => ([s.1, s.2], D.bl true)) [row, col] (.bl true)) [row + lies, col + 1 - lies] (.bl true))),
        .ow (dFL (L ++ [(row, col, lies)])), .fz (.int k), .fz (.int row), .fz (.int col), u12, u13]))
  show P (b_law_laid_1 _)
  unfold b_law_laid_1
  have l1 : S.length < 1000000 := Nat.lt_trans lS (by decide)
  have l2 : L.length < 1000000 := Nat.lt_trans lL (by decide)
  have lp : (dput (S.map fun s => ([s.1, s.2], D.bl true)) [row, col] (.bl true)).length < 1000000 := by
    unfold dput
    split <;> simp <;> omega
  refine seqP [s0, s1, .fz (.int high), .fz (.int wide), .fz (.int top), .fz (.int left), .fz (.int nb), .ow (dD S), .ow (dFL L), .fz (.int k), .fz (.int row), t11, t12, t13] P (by simp [hw, hw2, hr]) ?_
  refine seqP [s0, s1, .fz (.int high), .fz (.int wide), .fz (.int top), .fz (.int left), .fz (.int nb), .ow (dD S), .ow (dFL L), .fz (.int k), .fz (.int row), .fz (.int col), t12, t13] P (by simp [hw, hw2, hc]) ?_
  refine seqP [s0, s1, .fz (.int high), .fz (.int wide), .fz (.int top), .fz (.int left), .fz (.int nc), .ow (dD S), .ow (dFL L), .fz (.int k), .fz (.int row), .fz (.int col), t12, t13] P (by simp [hn]) ?_
  refine seqP [s0, s1, .fz (.int high), .fz (.int wide), .fz (.int top), .fz (.int left), .fz (.int nc), .ow (dD S), .ow (dFL L), .fz (.int k), .fz (.int row), .fz (.int col), .ow (.lst []), t13] P (by simp) ?_
  have put : ∀ (fr : List D) (q : Int) (lies : Int), fMod (.int (nc / 64)) (.int fr.length) = some (.int q) → fIx (.lst fr) (.int q) = some (.int lies) → 0 < fr.length → (lies = 0 ∧ col + 1 < left + wide ∧ (row, col + 1) ∉ S ∨ lies = 1 ∧ row + 1 < top + high) → (row, col) ∉ S → P (xIf (tstB (e2 fGt (e1 fLen (vE 12)) (kE (.int 0)))) (xSeq (xSet 13 (e2 fIx (vE 12) (e2 fMod (e2 fDiv (vE 6) (kE (.int 64))) (e1 fLen (vE 12))))) (xSeq (xApp 8 (eTup (aCons (vF 10) (aCons (vF 11) (aCons (vF 13) (aNil)))))) (xSeq (xDput 7 (eTup (aCons (vF 10) (aCons (vF 11) (aNil)))) (kE (.bl true))) (xDput 7 (eTup (aCons (e2 fAdd (vE 10) (vE 13)) (aCons (e2 fSub (e2 fAdd (vE 11) (kE (.int 1))) (vE 13)) (aNil)))) (kE (.bl true)))))) (xNil)
      [s0, s1, .fz (.int high), .fz (.int wide), .fz (.int top), .fz (.int left), .fz (.int nc), .ow (dD S), .ow (dFL L), .fz (.int k), .fz (.int row), .fz (.int col), .ow (.lst fr), t13]) := fun fr q lies h1 h2 h3 h4 h5 => by
    refine .inr ⟨lies, .ow (.lst fr), .fz (.int lies), h4, h5, ?_⟩
    simp only [xIf_e]
    rw [show tstB (e2 fGt (e1 fLen (vE 12)) (kE (.int 0))) [s0, s1, .fz (.int high), .fz (.int wide), .fz (.int top), .fz (.int left), .fz (.int nc), .ow (dD S), .ow (dFL L), .fz (.int k), .fz (.int row), .fz (.int col), .ow (.lst fr), t13] = .ok true by simp; exact h3]
    simp only [R.ok_bind, if_true]
    refine seq_nx (E' := [s0, s1, .fz (.int high), .fz (.int wide), .fz (.int top), .fz (.int left), .fz (.int nc), .ow (dD S), .ow (dFL L), .fz (.int k), .fz (.int row), .fz (.int col), .ow (.lst fr), .fz (.int lies)]) (by simp [-fIx_l, h1, h2]) ?_
    simp [l1, l2, lp]
  have nil : P (xIf (tstB (e2 fGt (e1 fLen (vE 12)) (kE (.int 0)))) (xSeq (xSet 13 (e2 fIx (vE 12) (e2 fMod (e2 fDiv (vE 6) (kE (.int 64))) (e1 fLen (vE 12))))) (xSeq (xApp 8 (eTup (aCons (vF 10) (aCons (vF 11) (aCons (vF 13) (aNil)))))) (xSeq (xDput 7 (eTup (aCons (vF 10) (aCons (vF 11) (aNil)))) (kE (.bl true))) (xDput 7 (eTup (aCons (e2 fAdd (vE 10) (vE 13)) (aCons (e2 fSub (e2 fAdd (vE 11) (kE (.int 1))) (vE 13)) (aNil)))) (kE (.bl true)))))) (xNil)
      [s0, s1, .fz (.int high), .fz (.int wide), .fz (.int top), .fz (.int left), .fz (.int nc), .ow (dD S), .ow (dFL L), .fz (.int k), .fz (.int row), .fz (.int col), .ow (.lst []), t13]) := .inl ⟨.ow (.lst []), t13, by simp⟩
  have one : ∀ d : D, fMod (.int (nc / 64)) (.int ([d] : List D).length) = some (.int 0) := fun d => by simp [Int.emod_one]
  by_cases hA : (row, col) ∉ S ∧ ¬ nc / 8 % 8 = 5
  · by_cases hB : col + 1 < left + wide ∧ (row, col + 1) ∉ S
    · by_cases hC : row + 1 < top + high
      · refine seqP [s0, s1, .fz (.int high), .fz (.int wide), .fz (.int top), .fz (.int left), .fz (.int nc), .ow (dD S), .ow (dFL L), .fz (.int k), .fz (.int row), .fz (.int col), .ow (.lst [.int 0, .int 1]), t13] P (by simp [hA, hB, hC]) ?_
        rcases Int.emod_two_eq (nc / 64) with h2 | h2
        · exact put _ 0 0 (by simp [h2]) rfl (by decide) (.inl ⟨rfl, hB⟩) hA.1
        · exact put _ 1 1 (by simp [h2]) rfl (by decide) (.inr ⟨rfl, hC⟩) hA.1
      · exact seqP [s0, s1, .fz (.int high), .fz (.int wide), .fz (.int top), .fz (.int left), .fz (.int nc), .ow (dD S), .ow (dFL L), .fz (.int k), .fz (.int row), .fz (.int col), .ow (.lst [.int 0]), t13] P (by simp [hA, hB, hC]) (put _ 0 0 (one _) rfl (by decide) (.inl ⟨rfl, hB⟩) hA.1)
    · have hB' : ¬ (col + 1 < left + wide) ∨ (row, col + 1) ∈ S := by
        by_cases h : (row, col + 1) ∈ S
        · exact .inr h
        · exact .inl fun z => hB ⟨z, h⟩
      by_cases hC : row + 1 < top + high
      · refine seqP [s0, s1, .fz (.int high), .fz (.int wide), .fz (.int top), .fz (.int left), .fz (.int nc), .ow (dD S), .ow (dFL L), .fz (.int k), .fz (.int row), .fz (.int col), .ow (.lst [.int 1]), t13] P ?_ (put _ 0 1 (one _) rfl (by decide) (.inr ⟨rfl, hC⟩) hA.1)
        rcases hB' with h | h <;> simp [hA, h, hC]
      · refine seqP [s0, s1, .fz (.int high), .fz (.int wide), .fz (.int top), .fz (.int left), .fz (.int nc), .ow (dD S), .ow (dFL L), .fz (.int k), .fz (.int row), .fz (.int col), .ow (.lst []), t13] P ?_ nil
        rcases hB' with h | h <;> simp [hA, h, hC]
  · refine seqP [s0, s1, .fz (.int high), .fz (.int wide), .fz (.int top), .fz (.int left), .fz (.int nc), .ow (dD S), .ow (dFL L), .fz (.int k), .fz (.int row), .fz (.int col), .ow (.lst []), t13] P ?_ nil
    by_cases hA1 : (row, col) ∈ S
    · simp [hA1]
    · have hA2 : nc / 8 % 8 = 5 := by
        by_cases h : nc / 8 % 8 = 5
        · exact h
        · exact absurd ⟨hA1, h⟩ hA
      simp [hA1, hA2]
theorem laid_loop (s0 s1 : Sl) (high wide top left nb : Int) (hw : 0 < wide) (hw2 : wide ≤ 8) (hh : 0 < high) (hh2 : high ≤ 8) (ht : 0 ≤ top) (hl : 0 ≤ left) (h1 : top + high ≤ 8) (h2 : left + wide ≤ 8) :
    ∃ (nb' : Int) (L : List Fl) (t9 t10 t11 t12 t13 : Sl), forL (gN 9) b_law_laid_1 ((rng 0 (high * wide)).map D.int) [s0, s1, .fz (.int high), .fz (.int wide), .fz (.int top), .fz (.int left), .fz (.int nb), .ow (.dic []), .ow (.lst []), .un, .un, .un, .un, .un] =
      .ok (.nx [s0, s1, .fz (.int high), .fz (.int wide), .fz (.int top), .fz (.int left), .fz (.int nb'), .ow (dD (cover L)), .ow (dFL L), t9, t10, t11, t12, t13]) ∧ Drawn high wide top left (sortS (cover L)) L := by
  have hn : high * wide ≤ 64 := by
    have h1 : high * wide ≤ 8 * wide := Int.mul_le_mul_of_nonneg_right hh2 (by omega)
    omega
  obtain ⟨E1, e1, nb', L, t9, t10, t11, t12, t13, rfl, hL⟩ := forL_pre (set := gN 9) (b := b_law_laid_1) D.int (fun (pre : List Int) E => ∃ (nb : Int) (L : List Fl) (t9 t10 t11 t12 t13 : Sl), E = [s0, s1, .fz (.int high), .fz (.int wide), .fz (.int top), .fz (.int left), .fz (.int nb), .ow (dD (cover L)), .ow (dFL L), t9, t10, t11, t12, t13] ∧ LInv high wide top left pre L) (rng 0 (high * wide)) (by
    rintro pre k post epre E ⟨nb, L, t9, t10, t11, t12, t13, rfl, hL⟩
    refine ⟨_, rfl, ?_⟩
    have lp := rng_pre epre
    have lL : L.length < 1000 := by have := hL.len; omega
    have lS : (cover L).length < 1000 := by
      have e : (cover L).length = 2 * L.length := by
        unfold cover; rw [List.length_flatMap]; simp only [cells, List.length_cons, List.length_nil, List.map_const', List.sum_replicate_nat]; omega
      have := hL.len; omega
    have hk : ∀ k' ∈ pre, k' < k := fun k' hk' => by
      have := rng_pairwise 0 (high * wide)
      rw [epre, List.pairwise_append] at this
      exact this.2.2 k' hk' k (by simp)
    rcases laid_step s0 s1 t10 t11 t12 t13 high wide top left nb k (cover L) L hw (by omega) lS lL with ⟨u12, u13, e⟩ | ⟨lies, u12, u13, hc, hp, e⟩
    · exact goes_mk ⟨_, L, _, _, _, _, _, rfl, hL.same k⟩ e
    · obtain ⟨hL', hm, hn, hne⟩ := hL.new hw hk hc hp
      refine goes_mk ⟨nb * 48271 % 2147483647, _, .fz (.int k), .fz (.int (top + k / wide)), .fz (.int (left + k % wide)), u12, u13, rfl, hL'⟩ (e.trans ?_)
      rw [cover_app]
      have e1 := dput_D (top + k / wide, left + k % wide) (cover L) hp
      have e2 := dput_D (mate (top + k / wide, left + k % wide, lies)) (cover L ++ [(top + k / wide, left + k % wide)]) (by
        simp only [List.mem_append, List.mem_singleton, not_or]
        exact ⟨hn, hne⟩)
      rw [e1]
      rw [hm] at e2 ⊢
      rw [e2]
      simp [pos2]) [s0, s1, .fz (.int high), .fz (.int wide), .fz (.int top), .fz (.int left), .fz (.int nb), .ow (.dic []), .ow (.lst []), .un, .un, .un, .un, .un] ⟨nb, [], _, _, _, _, _, rfl, ⟨by simp, by simp, by simp, by simp [cover], by simp⟩⟩
  exact ⟨nb', L, t9, t10, t11, t12, t13, e1, hL.drawn hw hh ht hl h1 h2⟩
theorem law_laid_d (ns : List Int) : ∃ (F : List Sq) (L : List Fl), dn_law_laid [.scr ns] = .ok (.tup [dL F, dFL L]) ∧ IsFloor F ∧ Lay F L ∧ F.length ≤ 30 := by
  unfold dn_law_laid m_law_laid
  have c0 : dn_law_cell_at [.scr ns, .int 0] = _ := cell_d ns 0
  have c1 : dn_law_cell_at [.scr ns, .int 1] = _ := cell_d ns 1
  generalize ns.getD 0 0 = head at c0
  generalize ns.getD 1 0 = num at c1
  generalize hh : 1 + head % 5 = high
  generalize hw : 1 + head / 5 % 6 = wide
  have bh : 1 ≤ high ∧ high ≤ 5 := by omega
  have bw : 1 ≤ wide ∧ wide ≤ 6 := by omega
  generalize ht : head / 30 % (9 - high) = top
  generalize hl : head / 240 % (9 - wide) = left
  have bt : 0 ≤ top ∧ top < 9 - high := by rw [← ht]; exact ⟨Int.emod_nonneg _ (by omega), Int.emod_lt_of_pos _ (by omega)⟩
  have bl : 0 ≤ left ∧ left < 9 - wide := by rw [← hl]; exact ⟨Int.emod_nonneg _ (by omega), Int.emod_lt_of_pos _ (by omega)⟩
  have hn : high * wide ≤ 30 := by
    have h1 : high * wide ≤ 5 * wide := Int.mul_le_mul_of_nonneg_right bh.2 (by omega)
    omega
  have hn0 : 0 ≤ high * wide := Int.mul_nonneg (by omega) (by omega)
  generalize hnum : 1 + num % 2147483646 = number
  obtain ⟨nb', L, t9, t10, t11, t12, t13, e1, hD⟩ := laid_loop (.fz (.scr ns)) (.fz (.int head)) high wide top left number (by omega) (by omega) (by omega) (by omega) bt.1 bl.1 (by omega) (by omega)
  refine ⟨_, L, ?_, hD.fl, hD.lay, by have := hD.len; omega⟩
  have hm : high.natAbs < 9223372036854775808 := by omega
  have hmm : (high * wide).natAbs < 1000000 := by omega
  have h9 : high < 9 := by omega
  have h9' : wide < 9 := by omega
  have ls : (cover L).length < 64 := by
    have := hD.len
    have := hD.lay.len
    omega
  simp [c0, c1, hh, hw, ht, hl, hnum, hm, h9, h9', hmm, e1, frz_e, fSortD_D _ ls]
theorem forL_nx {set : D → Ev → Option Ev} {b : EX} {d : D} {ds : List D} {E E1 E2 : Ev} (h1 : set d E = some E1) (h2 : b E1 = .ok (.nx E2)) : forL set b (d :: ds) E = forL set b ds E2 := by
  show (match set d E with
    | none => _
    | some E1 => _) = _
  rw [h1]
  show (b E1 >>= _) = _
  rw [h2]
  rfl
theorem addF {A B : List Fl} (h : A.length + B.length ≤ 1000000) : fAdd (dFL A) (dFL B) = some (dFL (A ++ B)) := by
  show (if (A.map dF).length + (B.map dF).length ≤ 1000000 then some (D.lst (A.map dF ++ B.map dF)) else none) = _
  rw [if_pos (by rw [List.length_map, List.length_map]; exact h), ← List.map_append]
theorem sl_to (L : List Fl) (n : Nat) : fSl (dFL L) none (some (n : Int)) = some (dFL (L.take n)) := by
  show some (D.lst (cutD (L.map dF) none (some (n : Int)))) = _
  rw [cut_to, ← List.map_take]
theorem sl_from (L : List Fl) (n : Nat) : fSl (dFL L) (some (n : Int)) none = some (dFL (L.drop n)) := by
  show some (D.lst (cutD (L.map dF) (some (n : Int)) none)) = _
  rw [cut_from, ← List.map_drop]
theorem ix_F {L : List Fl} {n : Nat} (h : n < L.length) : fIx (dFL L) (.int n) = some (dF L[n]) := by
  rw [fIx_l]
  refine atI_nat ?_
  rw [List.getElem?_map]
  simp [h]
theorem ix_last {L : List Fl} (h : 0 < L.length) : ∃ g, fIx (dFL L) (.int (-1)) = some (dF g) := by
  refine ⟨L[L.length - 1], ?_⟩
  show (ixN (L.map dF).length (-1)).bind (fun j => (L.map dF)[j]?) = _
  have e : ixN (L.map dF).length (-1) = some (L.length - 1) := by
    unfold ixN
    rw [List.length_map, if_neg (by decide)]
    rw [if_pos (by omega)]
    congr 1
    omega
  rw [e]
  show (L.map dF)[L.length - 1]? = _
  rw [List.getElem?_map]
  simp [show L.length - 1 < L.length by omega]
theorem spoilt_d {L : List Fl} {n : Nat} (hn : n < L.length) (lL : L.length ≤ 100) {w : Int} (h0 : 0 ≤ w) (h1 : w < 10) : ∃ M : List Fl, M.length ≤ L.length + 1 ∧ dn_law_spoilt [dFL L, .int w, .int n] = .ok (dFL M) := by
  have i0 := ix_F hn
  generalize hf : L[n] = f at i0
  have s1 := sl_to L n
  have s2 := sl_from L (n + 1)
  have lt : (L.take n).length ≤ 100 := by rw [List.length_take]; omega
  have ld : (L.drop (n + 1)).length ≤ 100 := by rw [List.length_drop]; omega
  have lsum : (L.take n).length + (L.drop (n + 1)).length + 1 = L.length := by rw [List.length_take, List.length_drop]; omega
  generalize L.take n = A at *
  generalize L.drop (n + 1) = B at *
  have s2 : fSl (dFL L) (some ((n : Int) + 1)) none = some (dFL B) := s2
  obtain ⟨B1, B2, s3', s4', l34⟩ : ∃ B1 B2 : List Fl, fSl (dFL B) none (some 1) = some (dFL B1) ∧ fSl (dFL B) (some 1) none = some (dFL B2) ∧ B1.length + B2.length = B.length := ⟨B.take 1, B.drop 1, sl_to B 1, sl_from B 1, by rw [List.length_take, List.length_drop]; omega⟩
  obtain ⟨L1, s5', l5⟩ : ∃ L1 : List Fl, fSl (dFL L) (some 1) none = some (dFL L1) ∧ L1.length + 1 = L.length := ⟨L.drop 1, sl_from L 1, by rw [List.length_drop]; omega⟩
  have z0 := ix_F (L := L) (n := 0) (by omega)
  generalize hg : L[0] = g at z0
  obtain ⟨e, ze⟩ := ix_last (L := L) (by omega)
  obtain ⟨c, hc⟩ : ∃ c : Int, fIx (.lst [.int 2, .int (-1)]) (.int ((n : Int) % 2)) = some (.int c) := by
    have : (n : Int) % 2 = 0 ∨ (n : Int) % 2 = 1 := by omega
    rcases this with q | q <;> rw [q]
    · exact ⟨2, rfl⟩
    · exact ⟨-1, rfl⟩
  have one : ∀ a b c : Int, D.lst [D.tup [.int a, .int b, .int c]] = dFL [(a, b, c)] := fun _ _ _ => rfl
  have start : ∀ M : List Fl, xSeq (xIf (tstB (e2 fEq (vE 1) (kE (.int 1)))) (xRet (e2 fAdd (vE 4) (vE 5))) (xNil)) (xSeq (xIf (tstB (e2 fEq (vE 1) (kE (.int 2)))) (xRet (e2 fAdd (e2 fAdd (vE 4) (eLst (aCons (vF 3) (aCons (vF 3) (aNil))))) (vE 5))) (xNil)) (xSeq (xIf (tstB (e2 fEq (vE 1) (kE (.int 3)))) (xRet (e2 fAdd (e2 fAdd (e2 fAdd (vE 4) (eSl (vE 5) (oNone) (oPart (kE (.int 1))))) (eLst (aCons (vF 3) (aNil)))) (eSl (vE 5) (oPart (kE (.int 1))) (oNone)))) (xNil)) (xSeq (xIf (tstB (e2 fEq (vE 1) (kE (.int 4)))) (xRet (e2 fAdd (e2 fAdd (vE 4) (eLst (aCons (eTup (aCons (e2 fIx (vE 3) (kE (.int 0))) (aCons (e2 fIx (vE 3) (kE (.int 1))) (aCons (e2 fSub (kE (.int 1)) (e2 fIx (vE 3) (kE (.int 2)))) (aNil))))) (aNil)))) (vE 5))) (xNil)) (xSeq (xIf (tstB (e2 fEq (vE 1) (kE (.int 5)))) (xRet (e2 fAdd (e2 fAdd (vE 4) (eLst (aCons (eTup (aCons (e2 fIx (vE 3) (kE (.int 0))) (aCons (e2 fIx (vE 3) (kE (.int 1))) (aCons (e2 fIx (eLst (aCons (kE (.int 2)) (aCons (e1 fNeg (kE (.int 1))) (aNil)))) (e2 fMod (vE 2) (kE (.int 2)))) (aNil))))) (aNil)))) (vE 5))) (xNil)) (xSeq (xIf (tstB (e2 fEq (vE 1) (kE (.int 6)))) (xRet (e2 fAdd (e2 fAdd (vE 4) (eLst (aCons (eTup (aCons (e2 fAdd (e2 fIx (vE 3) (kE (.int 0))) (kE (.int 1))) (aCons (e2 fIx (vE 3) (kE (.int 1))) (aCons (e2 fIx (vE 3) (kE (.int 2))) (aNil))))) (aNil)))) (vE 5))) (xNil)) (xSeq (xIf (tstB (e2 fEq (vE 1) (kE (.int 7)))) (xRet (e2 fAdd (vE 0) (eLst (aCons (eTup (aCons (e2 fAdd (e2 fIx (e2 fIx (vE 0) (e1 fNeg (kE (.int 1)))) (kE (.int 0))) (kE (.int 2))) (aCons (e2 fIx (e2 fIx (vE 0) (e1 fNeg (kE (.int 1)))) (kE (.int 1))) (aCons (e2 fIx (vE 3) (kE (.int 2))) (aNil))))) (aNil))))) (xNil)) (xSeq (xIf (tstB (e2 fEq (vE 1) (kE (.int 8)))) (xRet (e2 fAdd (eLst (aCons (eTup (aCons (e2 fSub (e2 fSub (e2 fIx (e2 fIx (vE 0) (kE (.int 0))) (kE (.int 0))) (kE (.int 8))) (e2 fDiv (vE 2) (kE (.int 2)))) (aCons (e2 fIx (e2 fIx (vE 0) (kE (.int 0))) (kE (.int 1))) (aCons (e2 fIx (e2 fIx (vE 0) (kE (.int 0))) (kE (.int 2))) (aNil))))) (aNil))) (eSl (vE 0) (oPart (kE (.int 1))) (oNone)))) (xNil)) (xSeq (xIf (tstB (e2 fEq (vE 1) (kE (.int 9)))) (xRet (e2 fAdd (eLst (aCons (eTup (aCons (e2 fIx (e2 fIx (vE 0) (kE (.int 0))) (kE (.int 0))) (aCons (e2 fSub (e2 fSub (e2 fIx (e2 fIx (vE 0) (kE (.int 0))) (kE (.int 1))) (kE (.int 8))) (e2 fDiv (vE 2) (kE (.int 2)))) (aCons (e2 fIx (e2 fIx (vE 0) (kE (.int 0))) (kE (.int 2))) (aNil))))) (aNil))) (eSl (vE 0) (oPart (kE (.int 1))) (oNone)))) (xNil)) (xRet (vF 0)))))))))) [.fz (dFL L), .fz (.int w), .fz (.int n), .fz (dF f), .fz (dFL A), .fz (dFL B)] = .ok (.rt (dFL M)) → dn_law_spoilt [dFL L, .int w, .int n] = .ok (dFL M) := by
    intro M hM
    have key : m_law_spoilt [.fz (dFL L), .fz (.int w), .fz (.int n), .un, .un, .un] = .ok (.rt (dFL M)) := by
      unfold m_law_spoilt
      refine seq_nx (E' := [.fz (dFL L), .fz (.int w), .fz (.int n), .fz (dF f), .un, .un]) (set_ok (by simp [-fIx_l, i0])) ?_
      refine seq_nx (E' := [.fz (dFL L), .fz (.int w), .fz (.int n), .fz (dF f), .fz (dFL A), .un]) (set_ok (by simp [s1])) ?_
      refine seq_nx (E' := [.fz (dFL L), .fz (.int w), .fz (.int n), .fz (dF f), .fz (dFL A), .fz (dFL B)]) (set_ok (by simp [s2])) ?_
      exact hM
    exact (congrArg ended key).trans rfl
  have cs : w = 0 ∨ w = 1 ∨ w = 2 ∨ w = 3 ∨ w = 4 ∨ w = 5 ∨ w = 6 ∨ w = 7 ∨ w = 8 ∨ w = 9 := by omega
  rcases cs with rfl | rfl | rfl | rfl | rfl | rfl | rfl | rfl | rfl | rfl
  · exact ⟨L, by omega, start _ (by simp)⟩
  · exact ⟨A ++ B, by rw [List.length_append]; omega, start _ (by simp [addF (A := A) (B := B) (by omega)])⟩
  · refine ⟨A ++ [f, f] ++ B, by simp; omega, start _ ?_⟩
    have a1 : fAdd (dFL A) (.lst [dF f, dF f]) = some (dFL (A ++ [f, f])) := addF (B := [f, f]) (by simp; omega)
    have a2 := addF (A := A ++ [f, f]) (B := B) (by simp; omega)
    simp [-fAdd_l, a1, a2]
  · refine ⟨A ++ B1 ++ [f] ++ B2, by simp only [List.length_append, List.length_singleton]; omega, start _ ?_⟩
    have a1 := addF (A := A) (B := B1) (by omega)
    have a2 : fAdd (dFL (A ++ B1)) (.lst [dF f]) = some (dFL (A ++ B1 ++ [f])) := addF (B := [f]) (by simp only [List.length_append, List.length_singleton]; omega)
    have a3 := addF (A := A ++ B1 ++ [f]) (B := B2) (by simp only [List.length_append, List.length_singleton]; omega)
    simp [-fAdd_l, -fSl_1, -List.append_assoc, s3', s4', a1, a2, a3]
  · refine ⟨A ++ [(f.1, f.2.1, 1 - f.2.2)] ++ B, by simp; omega, start _ ?_⟩
    have a1 : fAdd (dFL A) (.lst [.tup [.int f.1, .int f.2.1, .int (1 - f.2.2)]]) = some (dFL (A ++ [(f.1, f.2.1, 1 - f.2.2)])) := addF (B := [(f.1, f.2.1, 1 - f.2.2)]) (by simp; omega)
    have a2 := addF (A := A ++ [(f.1, f.2.1, 1 - f.2.2)]) (B := B) (by simp; omega)
    simp [-fAdd_l, a1, a2]
  · refine ⟨A ++ [(f.1, f.2.1, c)] ++ B, by simp; omega, start _ ?_⟩
    have a1 : fAdd (dFL A) (.lst [.tup [.int f.1, .int f.2.1, .int c]]) = some (dFL (A ++ [(f.1, f.2.1, c)])) := addF (B := [(f.1, f.2.1, c)]) (by simp; omega)
    have a2 := addF (A := A ++ [(f.1, f.2.1, c)]) (B := B) (by simp; omega)
    simp [-fAdd_l, -fIx_l, hc, a1, a2]
  · refine ⟨A ++ [(f.1 + 1, f.2.1, f.2.2)] ++ B, by simp; omega, start _ ?_⟩
    have a1 : fAdd (dFL A) (.lst [.tup [.int (f.1 + 1), .int f.2.1, .int f.2.2]]) = some (dFL (A ++ [(f.1 + 1, f.2.1, f.2.2)])) := addF (B := [(f.1 + 1, f.2.1, f.2.2)]) (by simp; omega)
    have a2 := addF (A := A ++ [(f.1 + 1, f.2.1, f.2.2)]) (B := B) (by simp; omega)
    simp [-fAdd_l, a1, a2]
  · refine ⟨L ++ [(e.1 + 2, e.2.1, f.2.2)], by simp, start _ ?_⟩
    have a1 : fAdd (dFL L) (.lst [.tup [.int (e.1 + 2), .int e.2.1, .int f.2.2]]) = some (dFL (L ++ [(e.1 + 2, e.2.1, f.2.2)])) := addF (B := [(e.1 + 2, e.2.1, f.2.2)]) (by simp; omega)
    simp [-fAdd_l, -fIx_l, ze, a1]
  · refine ⟨[(g.1 - 8 - (n : Int) / 2, g.2.1, g.2.2)] ++ L1, by simp only [List.length_append, List.length_singleton]; omega, start _ ?_⟩
    have a1 : fAdd (.lst [.tup [.int (g.1 - 8 - (n : Int) / 2), .int g.2.1, .int g.2.2]]) (dFL (L1)) = some (dFL ([(g.1 - 8 - (n : Int) / 2, g.2.1, g.2.2)] ++ L1)) := addF (A := [(g.1 - 8 - (n : Int) / 2, g.2.1, g.2.2)]) (by simp only [List.length_singleton]; omega)
    have z0' : fIx (dFL L) (.int 0) = some (dF g) := z0
    simp [-fAdd_l, -fIx_l, -fSl_1, z0', s5', a1]
  · refine ⟨[(g.1, g.2.1 - 8 - (n : Int) / 2, g.2.2)] ++ L1, by simp only [List.length_append, List.length_singleton]; omega, start _ ?_⟩
    have a1 : fAdd (.lst [.tup [.int g.1, .int (g.2.1 - 8 - (n : Int) / 2), .int g.2.2]]) (dFL (L1)) = some (dFL ([(g.1, g.2.1 - 8 - (n : Int) / 2, g.2.2)] ++ L1)) := addF (A := [(g.1, g.2.1 - 8 - (n : Int) / 2, g.2.2)]) (by simp only [List.length_singleton]; omega)
    have z0' : fIx (dFL L) (.int 0) = some (dF g) := z0
    simp [-fAdd_l, -fIx_l, -fSl_1, z0', s5', a1]
theorem lcov (M : List Fl) : (cover M).length = 2 * M.length := by
  unfold cover; rw [List.length_flatMap]; simp only [cells, List.length_cons, List.length_nil, List.map_const', List.sum_replicate_nat]; omega
noncomputable def wayOk (f : Fl) : Bool := decide (f.2.2 = 0 ∨ f.2.2 = 1)
noncomputable def chk : Option Fl → List Fl → Bool
  | _, [] => true
  | p, f :: r => (wayOk f && (match p with | none => true | some g => decide (Slt (pos2 g) (pos2 f)))) && chk (some f) r
theorem inOrd_cons (g f : Fl) (r : List Fl) : inOrd (g :: f :: r) = (decide (Slt (pos2 g) (pos2 f)) && inOrd (f :: r)) := by
  unfold inOrd
  simp
theorem chk_some : ∀ (r : List Fl) (g : Fl), chk (some g) r = (r.all wayOk && inOrd (g :: r))
  | [], g => by simp [chk, inOrd]
  | f :: r, g => by
    rw [chk, chk_some r f, inOrd_cons, List.all_cons]
    generalize wayOk f = a
    generalize decide (Slt (pos2 g) (pos2 f)) = b
    generalize r.all wayOk = c
    generalize inOrd (f :: r) = d
    cases a <;> cases b <;> cases c <;> cases d <;> rfl
theorem chk_none (L : List Fl) : chk none L = (L.all wayOk && inOrd L) := by
  cases L with
  | nil => rfl
  | cons f r =>
    rw [chk, chk_some r f, List.all_cons]
    generalize wayOk f = a
    generalize r.all wayOk = c
    generalize inOrd (f :: r) = d
    cases a <;> cases c <;> cases d <;> rfl
theorem fits_go {F : List Sq} {L : List Fl} (lL : L.length < 32) : ∀ (suf pre : List Fl) (t3 t4 t5 t6 : Sl), L = pre ++ suf →
    ∃ E, forL (gN 3) b_law_fits_1 ((List.range' pre.length suf.length).map fun (i : Nat) => D.int (i : Int)) [.fz (dL F), .fz (dFL L), .fz (dL (cover pre)), t3, t4, t5, t6] = (if chk pre.getLast? suf = true then .ok (.nx E) else .ok (.rt (.bl false))) ∧ ∃ u3 u4 u5 u6, E = [.fz (dL F), .fz (dFL L), .fz (dL (cover L)), u3, u4, u5, u6]
  | [], pre, t3, t4, t5, t6, h => by
    have : pre = L := by simpa using h.symm
    subst this
    exact ⟨[.fz (dL F), .fz (dFL pre), .fz (dL (cover pre)), t3, t4, t5, t6], by simp [chk, forL], t3, t4, t5, t6, rfl⟩
  | f :: r, pre, t3, t4, t5, t6, h => by
    have hn : pre.length < L.length := by rw [h]; simp
    have ixn : fIx (dFL L) (.int (pre.length : Int)) = some (dF f) := by
      rw [ix_F hn]
      congr 2
      simp [h]
    have lt : (cover pre).length + 2 ≤ 1000000 := by rw [lcov]; omega
    have hrng : (List.range' pre.length (f :: r).length).map (fun (i : Nat) => D.int (i : Int)) = D.int (pre.length : Int) :: (List.range' (pre ++ [f]).length r.length).map (fun (i : Nat) => D.int (i : Int)) := by
      rw [List.length_cons, List.range'_succ, List.map_cons]
      simp
    have pv : pre.getLast? = none ∧ pre.length = 0 ∨ ∃ g, pre.getLast? = some g ∧ 0 < pre.length ∧ fIx (dFL L) (.int ((pre.length : Int) - 1)) = some (dF g) := by
      cases hp : pre.getLast? with
      | none => exact .inl ⟨rfl, by rw [List.getLast?_eq_none_iff.mp hp]; rfl⟩
      | some g =>
        refine .inr ⟨g, rfl, ?_, ?_⟩
        · cases pre with
          | nil => cases hp
          | cons _ _ => simp
        · have h0 : 0 < pre.length := by
            cases pre with
            | nil => cases hp
            | cons _ _ => simp
          rw [show ((pre.length : Int) - 1) = ((pre.length - 1 : Nat) : Int) by omega, ix_F (by omega)]
          rw [List.getLast?_eq_getElem?, List.getElem?_eq_getElem (by omega)] at hp
          congr 2
          have := Option.some.inj hp
          rw [← this]
          simp only [h]
          rw [List.getElem_append_left (by omega)]
    have sets : ∀ (c : EX) (o : R Out), c [.fz (dL F), .fz (dFL L), .fz (dL (cover pre)), .fz (.int (pre.length : Int)), .fz (.int f.1), .fz (.int f.2.1), .fz (.int f.2.2)] = o → xSeq (xSet 4 (e2 fIx (e2 fIx (vE 1) (vE 3)) (kE (.int 0)))) (xSeq (xSet 5 (e2 fIx (e2 fIx (vE 1) (vE 3)) (kE (.int 1)))) (xSeq (xSet 6 (e2 fIx (e2 fIx (vE 1) (vE 3)) (kE (.int 2)))) c)) [.fz (dL F), .fz (dFL L), .fz (dL (cover pre)), .fz (.int (pre.length : Int)), t4, t5, t6] = o := fun c o hc => by
      refine seq_nx (E' := [.fz (dL F), .fz (dFL L), .fz (dL (cover pre)), .fz (.int (pre.length : Int)), .fz (.int f.1), t5, t6]) (set_ok (by show (ofO (fIx (dFL L) (.int (pre.length : Int))) >>= fun x => ofO (fIx x (.int 0))) = _; rw [ixn]; rfl)) ?_
      refine seq_nx (E' := [.fz (dL F), .fz (dFL L), .fz (dL (cover pre)), .fz (.int (pre.length : Int)), .fz (.int f.1), .fz (.int f.2.1), t6]) (set_ok (by show (ofO (fIx (dFL L) (.int (pre.length : Int))) >>= fun x => ofO (fIx x (.int 1))) = _; rw [ixn]; rfl)) ?_
      refine seq_nx (E' := [.fz (dL F), .fz (dFL L), .fz (dL (cover pre)), .fz (.int (pre.length : Int)), .fz (.int f.1), .fz (.int f.2.1), .fz (.int f.2.2)]) (set_ok (by show (ofO (fIx (dFL L) (.int (pre.length : Int))) >>= fun x => ofO (fIx x (.int 2))) = _; rw [ixn]; rfl)) ?_
      exact hc
    have test : bOr (bAnd (tstB (e2 fNe (vE 6) (kE (.int 0)))) (tstB (e2 fNe (vE 6) (kE (.int 1))))) (bAnd (tstB (e2 fGt (vE 3) (kE (.int 0)))) (tstB (e2 fGe (eSl (e2 fIx (vE 1) (e2 fSub (vE 3) (kE (.int 1)))) (oNone) (oPart (kE (.int 2)))) (eSl (e2 fIx (vE 1) (vE 3)) (oNone) (oPart (kE (.int 2)))))))
        [.fz (dL F), .fz (dFL L), .fz (dL (cover pre)), .fz (.int (pre.length : Int)), .fz (.int f.1), .fz (.int f.2.1), .fz (.int f.2.2)] = .ok (!(wayOk f && (match pre.getLast? with | none => true | some g => decide (Slt (pos2 g) (pos2 f))))) := by
      unfold wayOk
      rcases pv with ⟨p1, p2⟩ | ⟨g, p1, p2, p3⟩
      · rw [p1]
        by_cases h0 : f.2.2 = 0
        · simp [h0, p2]
        · by_cases h1 : f.2.2 = 1
          · simp [h1, p2]
          · simp [h0, h1]
      · rw [p1]
        have hsl : ∀ x : Fl, fSl (dF x) none (some 2) = some (.tup [.int x.1, .int x.2.1]) := fun _ => rfl
        by_cases h0 : f.2.2 = 0
        · simp [-fIx_l, h0, p2, p3, ixn, hsl, pos2]
          exact decide_eq_decide.2 Iff.rfl
        · by_cases h1 : f.2.2 = 1
          · simp [-fIx_l, h1, p2, p3, ixn, hsl, pos2]
            exact decide_eq_decide.2 Iff.rfl
          · simp [h0, h1]
    have bad : (wayOk f && (match pre.getLast? with | none => true | some g => decide (Slt (pos2 g) (pos2 f)))) = false → forL (gN 3) b_law_fits_1 (D.int (pre.length : Int) :: (List.range' (pre ++ [f]).length r.length).map (fun (i : Nat) => D.int (i : Int))) [.fz (dL F), .fz (dFL L), .fz (dL (cover pre)), t3, t4, t5, t6] = .ok (.rt (.bl false)) := fun hb => by
      have e : b_law_fits_1 [.fz (dL F), .fz (dFL L), .fz (dL (cover pre)), .fz (.int (pre.length : Int)), t4, t5, t6] = .ok (.rt (.bl false)) := by
        refine sets _ _ ?_
        rw [hb] at test
        show (xIf _ _ _ _ >>= _) = _
        simp only [xIf_e, test]
        rfl
      show (b_law_fits_1 [.fz (dL F), .fz (dFL L), .fz (dL (cover pre)), .fz (.int (pre.length : Int)), t4, t5, t6] >>= _) = _
      rw [e]
      rfl
    have good : (wayOk f && (match pre.getLast? with | none => true | some g => decide (Slt (pos2 g) (pos2 f)))) = true → b_law_fits_1 [.fz (dL F), .fz (dFL L), .fz (dL (cover pre)), .fz (.int (pre.length : Int)), t4, t5, t6] = .ok (.nx [.fz (dL F), .fz (dFL L), .fz (dL (cover (pre ++ [f]))), .fz (.int (pre.length : Int)), .fz (.int f.1), .fz (.int f.2.1), .fz (.int f.2.2)]) := fun hg => by
      refine sets _ _ ?_
      rw [hg] at test
      have hwf : wayOk f = true := (Bool.and_eq_true_iff.mp hg).1
      have hw : f.2.2 = 0 ∨ f.2.2 = 1 := of_decide_eq_true hwf
      have mt : (f.1 + f.2.2, f.2.1 + 1 - f.2.2) = mate f := by
        unfold mate
        rcases hw with e | e <;> rw [e] <;> simp
      have e2 : cover (pre ++ [f]) = cover pre ++ [(f.1, f.2.1), (f.1 + f.2.2, f.2.1 + 1 - f.2.2)] := by
        rw [mt]; unfold cover; simp [cells, pos2]
      refine seq_nx (E' := [.fz (dL F), .fz (dFL L), .fz (dL (cover pre)), .fz (.int (pre.length : Int)), .fz (.int f.1), .fz (.int f.2.1), .fz (.int f.2.2)]) (if_nil test) ?_
      rw [e2]
      simp [show (cover pre).length + 2 ≤ 1000000 from lt]
    rw [hrng]
    obtain ⟨E, e1, u3, u4, u5, u6, e2⟩ := fits_go lL r (pre ++ [f]) (.fz (.int (pre.length : Int))) (.fz (.int f.1)) (.fz (.int f.2.1)) (.fz (.int f.2.2)) (by rw [h]; simp)
    refine ⟨E, ?_, u3, u4, u5, u6, e2⟩
    rw [show chk pre.getLast? (f :: r) = ((wayOk f && (match pre.getLast? with | none => true | some g => decide (Slt (pos2 g) (pos2 f)))) && chk (some f) r) from by cases pre.getLast? <;> rfl]
    have hl : (pre ++ [f]).getLast? = some f := by simp
    rw [hl] at e1
    cases hc : (wayOk f && (match pre.getLast? with | none => true | some g => decide (Slt (pos2 g) (pos2 f)))) with
    | false =>
      rw [Bool.false_and, if_neg (by simp)]
      exact bad hc
    | true =>
      rw [Bool.true_and]
      exact (forL_nx (set := gN 3) rfl (good hc)).trans e1
theorem rng_range' (n : Nat) : (rng 0 (n : Int)).map D.int = (List.range' 0 n).map fun (i : Nat) => D.int (i : Int) := by
  unfold rng
  rw [List.map_map, List.range_eq_range']
  simp
theorem fits_d (F : List Sq) {L : List Fl} (lL : L.length < 32) : dn_law_fits [dL F, dFL L] = .ok (.bl ((L.all wayOk) && (inOrd L && decide (sortS (cover L) = F)))) := by
  obtain ⟨E, eL, u3, u4, u5, u6, rfl⟩ := fits_go (F := F) lL L [] .un .un .un .un rfl
  have hc : chk ([] : List Fl).getLast? L = (L.all wayOk && inOrd L) := chk_none L
  rw [hc] at eL
  have hs := fSort_S (cover L) (by rw [lcov]; omega)
  have key : m_law_fits [.fz (dL F), .fz (dFL L), .un, .un, .un, .un, .un] = .ok (.rt (.bl ((L.all wayOk) && (inOrd L && decide (sortS (cover L) = F))))) := by
    unfold m_law_fits
    refine seq_nx (E' := [.fz (dL F), .fz (dFL L), .fz (dL []), .un, .un, .un, .un]) (set_ok (by rfl)) ?_
    have hr : iR1 (e1 fLen (vE 1)) [.fz (dL F), .fz (dFL L), .fz (dL []), .un, .un, .un, .un] = .ok ((List.range' 0 L.length).map fun (i : Nat) => D.int (i : Int)) := by
      rw [← rng_range']
      simp [show L.length < 1000000 by omega]
    show ((iR1 (e1 fLen (vE 1)) _ >>= fun ds => forL (gN 3) b_law_fits_1 ds _) >>= _) = _
    rw [hr]
    simp only [R.ok_bind]
    rw [show forL (gN 3) b_law_fits_1 ((List.range' 0 L.length).map fun (i : Nat) => D.int (i : Int)) [.fz (dL F), .fz (dFL L), .fz (dL []), .un, .un, .un, .un] = _ from eL]
    cases hb : (L.all wayOk && inOrd L) with
    | true =>
      obtain ⟨b1, b2⟩ := Bool.and_eq_true_iff.mp hb
      rw [if_pos rfl, b1, b2]
      simp [hs]
    | false =>
      rw [if_neg (by simp), ← Bool.and_assoc, hb]
      rfl
  exact (congrArg ended key).trans rfl
theorem dd_len : ∀ ks : List (List Int), (dd ks).length ≤ ks.length
  | [] => Nat.le_refl _
  | a :: r => by
    unfold dd
    have := dd_len r
    split <;> simp <;> omega
theorem sortset_d {S : List Sq} (hl : S.length < 60) (hon : ∀ s ∈ S, OnB s) : ∃ F' : List Sq, fSortSet (dL S) = some (dL F') ∧ IsFloor F' ∧ F'.length ≤ S.length := by
  obtain ⟨T, hT⟩ : ∃ T, T = (dd (S.map sk)).map unsk := ⟨_, rfl⟩
  have us : ∀ s : Sq, unsk (sk s) = s := fun s => rfl
  have mem : ∀ k ∈ dd (S.map sk), ∃ s ∈ S, sk s = k := fun k hk => List.mem_map.mp ((dd_mem _ k).1 hk)
  have back : T.map sk = dd (S.map sk) := by
    rw [hT, List.map_map]
    conv => rhs; rw [← List.map_id (dd (S.map sk))]
    refine List.map_congr_left fun k hk => ?_
    obtain ⟨s, _, rfl⟩ := mem k hk
    rfl
  have nd : T.Nodup := by
    have := dd_nodup (S.map sk)
    rw [← back] at this
    unfold List.Nodup at this ⊢
    rw [List.pairwise_map] at this
    exact this.imp fun {a b} h e => h (congrArg sk e)
  refine ⟨sortS T, ?_, ⟨sortS_strict nd, fun s hs => ?_⟩, ?_⟩
  · show ((dTups (S.map dS)).bind fun ks => if ks.length < 60 then some (D.lst ((sortK (dd ks)).map kT)) else none) = _
    rw [dTups_S]
    show (if (S.map sk).length < 60 then _ else _) = _
    rw [if_pos (by rw [List.length_map]; exact hl), ← back, ← sortS_sk, List.map_map]
    rfl
  · have h1 : s ∈ T := (sortS_perm T).mem_iff.1 hs
    have h2 : sk s ∈ T.map sk := List.mem_map.mpr ⟨s, h1, rfl⟩
    rw [back] at h2
    obtain ⟨s', hs', e⟩ := mem _ h2
    have : s' = s := by rw [← us s', e, us]
    rw [← this]
    exact hon s' hs'
  · rw [(sortS_perm T).length_eq, hT, List.length_map]
    have := dd_len (S.map sk)
    rw [List.length_map] at this
    exact this
theorem splitF {I n : EX} {E0 : Ev} (P : R Out → Prop) (T : List Sq → List Fl → Sl → Ev) (hb : List Sq → List Fl → Prop) (pre : ∃ F M u, hb F M ∧ I E0 = .ok (.nx (T F M u))) (tail : ∀ F M u, hb F M → P (n (T F M u))) : P (xSeq I n E0) := by
  obtain ⟨F, M, u, b, e⟩ := pre
  exact seqP _ P e (tail F M u b)
theorem law_true : ∀ ns : List Int, ns.length ≤ 63 → dn_law [.scr ns] = .ok (.bl true) := by
  intro ns _
  obtain ⟨F0, L0, e1, hF0, hL0, hl0⟩ := law_laid_d ns
  have lL0 : L0.length ≤ 15 := by
    have h1 := hL0.cov.length_eq
    rw [lcov] at h1
    omega
  have c2 : dn_law_cell_at [.scr ns, .int 2] = _ := cell_d ns 2
  have c3 : dn_law_cell_at [.scr ns, .int 3] = _ := cell_d ns 3
  have c4 : dn_law_cell_at [.scr ns, .int 4] = _ := cell_d ns 4
  have c5 : dn_law_cell_at [.scr ns, .int 5] = _ := cell_d ns 5
  generalize ns.getD 2 0 = z2 at c2
  generalize ns.getD 3 0 = z3 at c3
  generalize ns.getD 4 0 = z4 at c4
  generalize ns.getD 5 0 = z5 at c5
  obtain ⟨P, hP⟩ : ∃ P : R Out → Prop, P = fun r => ended r = .ok (.bl true) := ⟨_, rfl⟩
  suffices h : P (m_law [.fz (.scr ns), .un, .un, .un, .un, .un, .un, .un, .un]) by rw [hP] at h; exact h
  unfold m_law
  refine seqP [.fz (.scr ns), .fz (.tup [dL F0, dFL L0]), .un, .un, .un, .un, .un, .un, .un] P (set_ok (by simp [e1])) ?_
  refine seqP [.fz (.scr ns), .fz (.tup [dL F0, dFL L0]), .fz (dL F0), .un, .un, .un, .un, .un, .un] P (set_ok (by rfl)) ?_
  refine seqP [.fz (.scr ns), .fz (.tup [dL F0, dFL L0]), .fz (dL F0), .fz (dFL L0), .un, .un, .un, .un, .un] P (set_ok (by rfl)) ?_
  refine splitF P (fun F M _ => [.fz (.scr ns), .fz (.tup [dL F0, dFL L0]), .fz (dL F0), .fz (dFL M), .un, .un, .un, .un, .un]) (fun _ M => M.length ≤ 16) ?_ ?_
  · by_cases h0 : 0 < L0.length
    · obtain ⟨n, hn⟩ : ∃ n : Nat, z3 % (L0.length : Int) = n := Int.eq_ofNat_of_zero_le (Int.emod_nonneg _ (by omega))
      have hnl : n < L0.length := by have := Int.emod_lt_of_pos z3 (show (0 : Int) < L0.length by omega); omega
      obtain ⟨M, lM, eM⟩ := spoilt_d (L := L0) (n := n) hnl (by omega) (w := z2 % 10) (Int.emod_nonneg _ (by decide)) (Int.emod_lt_of_pos _ (by decide))
      refine ⟨F0, M, .un, by omega, ?_⟩
      have hmd : fMod (.int z3) (.int (L0.length : Int)) = some (.int n) := by
        rw [← hn]; simp [h0]
      simp [-fMod_i, h0, c2, c3, hmd, show fMod (.int z2) (.int 10) = some (.int (z2 % 10)) from rfl, eM]
    · refine ⟨F0, L0, .un, by omega, ?_⟩
      simp [h0]
  rintro _ M0 _ lM0
  have r0 := Int.emod_nonneg z5 (show (7 : Int) ≠ 0 by decide)
  have r1 := Int.emod_lt_of_pos z5 (show (0 : Int) < 7 by decide)
  generalize hr : z5 % 7 = row at r0 r1
  refine seqP [.fz (.scr ns), .fz (.tup [dL F0, dFL L0]), .fz (dL F0), .fz (dFL M0), .fz (.int row), .un, .un, .un, .un] P (set_ok (by simp [c5, hr])) ?_
  refine splitF P (fun F M _ => [.fz (.scr ns), .fz (.tup [dL F0, dFL L0]), .fz (dL F), .fz (dFL M), .fz (.int row), .un, .un, .un, .un]) (fun F M => IsFloor F ∧ M.length ≤ 16 ∧ F.length ≤ 32) ?_ ?_
  · by_cases h1 : z4 % 5 = 1
    · obtain ⟨F', eF, hF', lF'⟩ := sortset_d (S := F0 ++ [(row, 7), (row + 1, 0)]) (by simp; omega) (fun s hs => by
        rcases List.mem_append.mp hs with z | z
        · exact hF0.on s z
        · simp only [List.mem_cons, List.not_mem_nil, or_false] at z
          rcases z with rfl | rfl
          · unfold OnB; simp only; omega
          · unfold OnB; simp only; omega)
      obtain ⟨W, hR⟩ : ∃ W, W = L0.filter fun f => !(decide (pos2 f = (row, 7))) := ⟨_, rfl⟩
      have lR : W.length ≤ 15 := by rw [hR]; exact Nat.le_trans (List.length_filter_le _ _) lL0
      have ec : compL (gN 5) (tstB (e2 fNe (eSl (vE 5) (oNone) (oPart (kE (.int 2)))) (eTup (aCons (vF 4) (aCons (kE (.int 7)) (aNil)))))) (vF 5) [.fz (.scr ns), .fz (.tup [dL F0, dFL L0]), .fz (dL F'), .fz (dFL M0), .fz (.int row), .un, .un, .un, .un] (L0.map dF) = .ok (W.map dF) := by
        rw [hR, compL_ok dF (fun f => !(decide (pos2 f = (row, 7)))) dF L0 (fun f hf => ⟨_, rfl, by
          simp [clr, pos2], fun _ => by simp [clr]⟩)]
      have hs := fSort_F (W ++ [(row, 7, 0)]) (by simp; omega)
      refine ⟨F', sortF (W ++ [(row, 7, 0)]), .un, ⟨hF', by rw [(sortF_perm _).length_eq]; simp; omega, by simp at lF'; omega⟩, ?_⟩
      have ht : tstB (e2 fEq (e2 fMod (eCall 2 dn_law_cell_at (aCons (vF 0) (aCons (kE (.int 4)) (aNil)))) (kE (.int 5))) (kE (.int 1))) [.fz (.scr ns), .fz (.tup [dL F0, dFL L0]), .fz (dL F0), .fz (dFL M0), .fz (.int row), .un, .un, .un, .un] = .ok true := by simp [c4, h1]
      simp only [xIf_e]
      rw [ht]
      simp only [R.ok_bind, if_true]
      have eadd : fAdd (dL F0) (.lst [.tup [.int row, .int 7], .tup [.int (row + 1), .int 0]]) = some (dL (F0 ++ [(row, 7), (row + 1, 0)])) := by
        show (if (F0.map dS).length + 2 ≤ 1000000 then some (D.lst (F0.map dS ++ [dS (row, 7), dS (row + 1, 0)])) else none) = _
        rw [if_pos (by rw [List.length_map]; omega)]
        show _ = some (D.lst ((F0 ++ [(row, 7), (row + 1, 0)]).map dS))
        rw [List.map_append]
        rfl
      refine seq_nx (E' := [.fz (.scr ns), .fz (.tup [dL F0, dFL L0]), .fz (dL F'), .fz (dFL M0), .fz (.int row), .un, .un, .un, .un]) (set_ok (by simp [-fAdd_l, eadd, eF])) ?_
      have hs' : fSort (.lst (W.map dF ++ [.tup [.int row, .int 7, .int 0]])) = some (dFL (sortF (W ++ [(row, 7, 0)]))) := by
        have := hs
        simp only [dFL, List.map_append, List.map_cons, List.map_nil] at this
        exact this
      refine set_ok ?_
      have ix1 : fIx (.tup [dL F0, dFL L0]) (.int 1) = some (dFL L0) := rfl
      simp [noOw, clr, ix1, show L0.length ≤ 1000000 by omega]
      rw [ec]
      simp [show W.length + 1 ≤ 1000000 by omega, hs']
    · refine ⟨F0, M0, .un, ⟨hF0, lM0, by omega⟩, ?_⟩
      simp [c4, h1]
  rintro F M _ ⟨hF, lM, lF⟩
  have ei := is_laying_d hF M (by rw [lcov]; omega)
  have ef := fits_d F (L := M) (by omega)
  have hw : (M.all fun f => decide (f.2.2 = 0 ∨ f.2.2 = 1)) = M.all wayOk := rfl
  rw [hw] at ei
  generalize (M.all wayOk && (inOrd M && decide (sortS (cover M) = F))) = b at ei ef
  have ib : fIsi .bool (.bl b) = some (.bl true) := rfl
  rw [hP]
  simp [show F.length ≤ 1000000 by omega, show M.length ≤ 1000000 by omega, ei, ef, ib]
end M

set_option maxHeartbeats 4000000
set_option Elab.async false
set_option linter.all false
set_option maxRecDepth 100000
namespace M
open PySem PySem.Spec PyProof.Rows L2
noncomputable def top (i : Nat) : Stmt := PySem.Challenge.pw_flagfloor_k02_what_is_a_laying.main.body.getD i (.Pass ⟨0, 0, 0, 0⟩)
structure Txt (mg : Str → Option Value) : Prop where
  g_SIDE : ∃ t, mg "SIDE" = some (.int 8 t)
  g_zip : mg "zip" = none
  g_all : mg "all" = none
  g_sorted : mg "sorted" = none
  g_len : mg "len" = none
  g_range : mg "range" = none
  g_set : mg "set" = none
  g_list : mg "list" = none
  g_isinstance : mg "isinstance" = none
  g_bool : mg "bool" = none
section
variable {P : Program} {w : World} {K : PySem.W.Frag} {mg : Str → Option Value} {base : Heap}
noncomputable abbrev s_on_board : Stmt := top 5
theorem sc_on_board : FnScope ["square"] ["square"] (defScope s_on_board) := ⟨rfl, rfl, rfl, by decide +kernel, rfl, by decide +kernel, by decide +kernel⟩
theorem ok_on_board {f : Addr} {fd : FuncData} (Dn : Dfn K mg "on_board" s_on_board f fd) (T : Txt mg)  : Cal P w K mg base "on_board" ["square"] 1 dn_on_board :=
  ⟨f, fd, Dn.mg, Dn.fn.kp, Dn.fn.binds fun _ _ _ _ _ _ us hl => by obtain ⟨_, rfl⟩ := len1 hl; rfl, fn_okG Dn.fn sc_on_board fun cdv A outer s H E hr gd G hx =>
    sb_one (ss_ret (sf_and (sf_ch ch_le ch_ltI (SF.se (sf_int)) (SF.se (sf_at (se_var 0) (SF.se (sf_int)))) (SF.se (sf_gint T.g_SIDE (by rfl)))) (sf_one (sf_ch ch_le ch_ltI (SF.se (sf_int)) (SF.se (sf_at (se_var 0) (SF.se (sf_int)))) (SF.se (sf_gint T.g_SIDE (by rfl)))))))⟩
noncomputable abbrev s_check_floor : Stmt := top 6
theorem sc_check_floor : FnScope ["floor", "square", "earlier", "later"] ["floor"] (defScope s_check_floor) := ⟨rfl, rfl, rfl, by decide +kernel, rfl, by decide +kernel, by decide +kernel⟩
theorem ok_check_floor {f : Addr} {fd : FuncData} (Dn : Dfn K mg "check_floor" s_check_floor f fd) (T : Txt mg) (C_on_board : Cal P w K mg base "on_board" ["square"] 1 dn_on_board) : Cal P w K mg base "check_floor" ["floor"] 2 dn_check_floor :=
  ⟨f, fd, Dn.mg, Dn.fn.kp, Dn.fn.binds fun _ _ _ _ _ _ us hl => by obtain ⟨_, rfl⟩ := len1 hl; rfl, fn_okG Dn.fn sc_check_floor fun cdv A outer s H E hr gd G hx =>
    sb_cons (ss_for gd (si_list (sf_var 0)) (sg_name gd 1) (fun _ e1 => sb_one (ss_if (st_not (st_val (SF.se (sf_cal (x := "on_board") (ps := ["square"]) (k := 1) (j := 1) (dn := dn_on_board) (by exact C_on_board) (hx_of e1 hx) (by exact hr) (by decide) (by rfl) (sa_cons (sf_var 1) (sa_nil)))))) (sb_one (ss_never)) (sb_nil))))
    (sb_one (ss_for gd (si_zip  (by rfl) T.g_zip (sf_var 0) (sf_slice (se_var 0) (so_some (SF.se (sf_int))) (so_none))) (sg_two gd 2 3) (fun _ e2 => sb_one (ss_if (st_not (st_lt gd (se_var 2) (se_var 3))) (sb_one (ss_never)) (sb_nil)))))⟩
noncomputable abbrev s_squares_under : Stmt := top 8
theorem sc_squares_under : FnScope ["flag", "row", "column"] ["flag"] (defScope s_squares_under) := ⟨rfl, rfl, rfl, by decide +kernel, rfl, by decide +kernel, by decide +kernel⟩
theorem ok_squares_under {f : Addr} {fd : FuncData} (Dn : Dfn K mg "squares_under" s_squares_under f fd) (T : Txt mg)  : Cal P w K mg base "squares_under" ["flag"] 1 dn_squares_under :=
  ⟨f, fd, Dn.mg, Dn.fn.kp, Dn.fn.binds fun _ _ _ _ _ _ us hl => by obtain ⟨_, rfl⟩ := len1 hl; rfl, fn_okG Dn.fn sc_squares_under fun cdv A outer s H E hr gd G hx =>
    sb_cons (ss_set 1 (sf_at (se_var 0) (SF.se (sf_int))) gd.nd)
    (sb_cons (ss_set 2 (sf_at (se_var 0) (SF.se (sf_int))) gd.nd)
    (sb_cons (ss_if (st_eq gd (SF.se (sf_at (se_var 0) (SF.se (sf_int)))) (SF.se (sf_int))) (sb_one (ss_ret (SN.sf (sn_lst (sa_cons (sf_tup (sa_cons (sf_var 1) (sa_cons (sf_var 2) (sa_nil)))) (sa_cons (sf_tup (sa_cons (sf_var 1) (sa_cons (sf_add (se_var 2) (SF.se (sf_int))) (sa_nil)))) (sa_nil))))))) (sb_nil))
    (sb_one (ss_ret (SN.sf (sn_lst (sa_cons (sf_tup (sa_cons (sf_var 1) (sa_cons (sf_var 2) (sa_nil)))) (sa_cons (sf_tup (sa_cons (sf_add (se_var 1) (SF.se (sf_int))) (sa_cons (sf_var 2) (sa_nil)))) (sa_nil)))))))))⟩
noncomputable abbrev s_are_in_order : Stmt := top 9
theorem sc_are_in_order : FnScope ["flags", "earlier", "later"] ["flags"] (defScope s_are_in_order) := ⟨rfl, rfl, rfl, by decide +kernel, rfl, by decide +kernel, by decide +kernel⟩
theorem ok_are_in_order {f : Addr} {fd : FuncData} (Dn : Dfn K mg "are_in_order" s_are_in_order f fd) (T : Txt mg)  : Cal P w K mg base "are_in_order" ["flags"] 1 dn_are_in_order :=
  ⟨f, fd, Dn.mg, Dn.fn.kp, Dn.fn.binds fun _ _ _ _ _ _ us hl => by obtain ⟨_, rfl⟩ := len1 hl; rfl, fn_okG Dn.fn sc_are_in_order fun cdv A outer s H E hr gd G hx =>
    sb_one (ss_ret (sf_all gd  (by rfl) T.g_all (SN.se (sn_comp gd hx (si_zip  (by rfl) T.g_zip (sf_var 0) (sf_slice (se_var 0) (so_some (SF.se (sf_int))) (so_none))) (⟨cs_of rfl (by decide +kernel) (by decide +kernel) (by repeat first | exact True.intro | refine And.intro (by first | (intro h; exact absurd h (by decide)) | (intro _; exact Or.inl rfl) | (intro _; exact Or.inr rfl)) ?_), loc_of (N := ["flags", "earlier", "later"]) (by decide +kernel), hset_t _ _, fun _ _ _ _ => sg_two (gd_in gd) 1 2, fun _ _ _ _ _ e1 => sc_nil, fun _ _ _ _ _ e1 => sf_lt (gd_in gd) (SF.se (sf_slice (se_var 1) (so_none) (so_some (SF.se (sf_int))))) (SF.se (sf_slice (se_var 2) (so_none) (so_some (SF.se (sf_int)))))⟩)))))⟩
noncomputable abbrev s_all_under : Stmt := top 10
theorem sc_all_under : FnScope ["flags", "squares", "flag"] ["flags"] (defScope s_all_under) := ⟨rfl, rfl, rfl, by decide +kernel, rfl, by decide +kernel, by decide +kernel⟩
theorem ok_all_under {f : Addr} {fd : FuncData} (Dn : Dfn K mg "all_under" s_all_under f fd) (T : Txt mg) (C_squares_under : Cal P w K mg base "squares_under" ["flag"] 1 dn_squares_under) : Cal P w K mg base "all_under" ["flags"] 2 dn_all_under :=
  ⟨f, fd, Dn.mg, Dn.fn.kp, Dn.fn.binds fun _ _ _ _ _ _ us hl => by obtain ⟨_, rfl⟩ := len1 hl; rfl, fn_okG Dn.fn sc_all_under fun cdv A outer s H E hr gd G hx =>
    sb_cons (ss_own 1 (sn_lst (sa_nil)) gd.nd)
    (sb_cons (ss_for gd (si_list (sf_var 0)) (sg_name gd 2) (fun _ e1 => sb_one (ss_ext 1 (sf_cal (x := "squares_under") (ps := ["flag"]) (k := 1) (j := 1) (dn := dn_squares_under) (by exact C_squares_under) (hx_of e1 hx) (by exact hr) (by decide) (by rfl) (sa_cons (sf_var 2) (sa_nil))))))
    (sb_one (ss_ret (SN.sf (sn_sort gd  (by rfl) T.g_sorted (se_var 1))))))⟩
noncomputable abbrev s_is_laying : Stmt := top 11
theorem sc_is_laying : FnScope ["floor", "flags", "flag"] ["floor", "flags"] (defScope s_is_laying) := ⟨rfl, rfl, rfl, by decide +kernel, rfl, by decide +kernel, by decide +kernel⟩
theorem ok_is_laying {f : Addr} {fd : FuncData} (Dn : Dfn K mg "is_laying" s_is_laying f fd) (T : Txt mg) (C_check_floor : Cal P w K mg base "check_floor" ["floor"] 2 dn_check_floor) (C_are_in_order : Cal P w K mg base "are_in_order" ["flags"] 1 dn_are_in_order) (C_all_under : Cal P w K mg base "all_under" ["flags"] 2 dn_all_under) : Cal P w K mg base "is_laying" ["floor", "flags"] 3 dn_is_laying :=
  ⟨f, fd, Dn.mg, Dn.fn.kp, Dn.fn.binds fun _ _ _ _ _ _ us hl => by obtain ⟨_, _, rfl⟩ := len2 hl; rfl, fn_okG Dn.fn sc_is_laying fun cdv A outer s H E hr gd G hx =>
    sb_cons (ss_expr (SF.se (sf_cal (x := "check_floor") (ps := ["floor"]) (k := 2) (j := 2) (dn := dn_check_floor) (by exact C_check_floor) hx (by exact hr) (by decide) (by rfl) (sa_cons (sf_var 0) (sa_nil)))))
    (sb_cons (ss_if (st_not (st_val (SF.se (sf_all gd  (by rfl) T.g_all (SN.se (sn_comp gd hx (si_list (sf_var 1)) (⟨cs_of rfl (by decide +kernel) (by decide +kernel) (by repeat first | exact True.intro | refine And.intro (by first | (intro h; exact absurd h (by decide)) | (intro _; exact Or.inl rfl) | (intro _; exact Or.inr rfl)) ?_), loc_of (N := ["floor", "flags", "flag"]) (by decide +kernel), hset_n _ , fun _ _ _ _ => sg_name (gd_in gd) 2, fun _ _ _ _ _ e1 => sc_nil, fun _ _ _ _ _ e1 => sf_in (gd_in gd) (SF.se (sf_at (se_var 2) (SF.se (sf_int)))) (SF.se (sf_tup (sa_cons (sf_int) (sa_cons (sf_int) (sa_nil)))))⟩))))))) (sb_one (ss_ret (sf_bl))) (sb_nil))
    (sb_one (ss_ret (sf_and (sf_cal (x := "are_in_order") (ps := ["flags"]) (k := 1) (j := 2) (dn := dn_are_in_order) (by exact C_are_in_order) hx (by exact hr) (by decide) (by rfl) (sa_cons (sf_var 1) (sa_nil))) (sf_one (sf_eq gd (SF.se (sf_cal (x := "all_under") (ps := ["flags"]) (k := 2) (j := 2) (dn := dn_all_under) (by exact C_all_under) hx (by exact hr) (by decide) (by rfl) (sa_cons (sf_var 1) (sa_nil)))) (se_var 0)))))))⟩
noncomputable abbrev s_law_cell_at : Stmt := top 13
theorem sc_law_cell_at : FnScope ["script", "k"] ["script", "k"] (defScope s_law_cell_at) := ⟨rfl, rfl, rfl, by decide +kernel, rfl, by decide +kernel, by decide +kernel⟩
theorem ok_law_cell_at {f : Addr} {fd : FuncData} (Dn : Dfn K mg "_law_cell_at" s_law_cell_at f fd) (T : Txt mg)  : Cal P w K mg base "_law_cell_at" ["script", "k"] 1 dn_law_cell_at :=
  ⟨f, fd, Dn.mg, Dn.fn.kp, Dn.fn.binds fun _ _ _ _ _ _ us hl => by obtain ⟨_, _, rfl⟩ := len2 hl; rfl, fn_okG Dn.fn sc_law_cell_at fun cdv A outer s H E hr gd G hx =>
    sb_cons (ss_if (st_lt gd (se_var 1) (SF.se (sf_len  (by rfl) T.g_len (se_var 0)))) (sb_one (ss_ret (sf_at (se_var 0) (se_var 1)))) (sb_nil))
    (sb_one (ss_ret (sf_int)))⟩
noncomputable abbrev s_law_laid : Stmt := top 14
theorem sc_law_laid : FnScope ["script", "head", "high", "wide", "top", "left", "number", "seen", "flags", "k", "row", "column", "free", "lies"] ["script"] (defScope s_law_laid) := ⟨rfl, rfl, rfl, by decide +kernel, rfl, by decide +kernel, by decide +kernel⟩
theorem ok_law_laid {f : Addr} {fd : FuncData} (Dn : Dfn K mg "_law_laid" s_law_laid f fd) (T : Txt mg) (C_law_cell_at : Cal P w K mg base "_law_cell_at" ["script", "k"] 1 dn_law_cell_at) : Cal P w K mg base "_law_laid" ["script"] 2 dn_law_laid :=
  ⟨f, fd, Dn.mg, Dn.fn.kp, Dn.fn.binds fun _ _ _ _ _ _ us hl => by obtain ⟨_, rfl⟩ := len1 hl; rfl, fn_okG Dn.fn sc_law_laid fun cdv A outer s H E hr gd G hx =>
    sb_cons (ss_set 1 (sf_cal (x := "_law_cell_at") (ps := ["script", "k"]) (k := 1) (j := 1) (dn := dn_law_cell_at) (by exact C_law_cell_at) hx (by exact hr) (by decide) (by rfl) (sa_cons (sf_var 0) (sa_cons (sf_int) (sa_nil)))) gd.nd)
    (sb_cons (ss_set 2 (sf_add (SF.se (sf_int)) (SF.se (sf_mod (se_var 1) (SF.se (sf_int))))) gd.nd)
    (sb_cons (ss_set 3 (sf_add (SF.se (sf_int)) (SF.se (sf_mod (SF.se (sf_div (se_var 1) (SF.se (sf_int)))) (SF.se (sf_int))))) gd.nd)
    (sb_cons (ss_set 4 (sf_mod (SF.se (sf_div (se_var 1) (SF.se (sf_int)))) (SF.se (sf_sub (SF.se (sf_int)) (se_var 2)))) gd.nd)
    (sb_cons (ss_set 5 (sf_mod (SF.se (sf_div (se_var 1) (SF.se (sf_int)))) (SF.se (sf_sub (SF.se (sf_int)) (se_var 3)))) gd.nd)
    (sb_cons (ss_set 6 (sf_add (SF.se (sf_int)) (SF.se (sf_mod (SF.se (sf_cal (x := "_law_cell_at") (ps := ["script", "k"]) (k := 1) (j := 1) (dn := dn_law_cell_at) (by exact C_law_cell_at) hx (by exact hr) (by decide) (by rfl) (sa_cons (sf_var 0) (sa_cons (sf_int) (sa_nil))))) (SF.se (sf_int))))) gd.nd)
    (sb_cons (ss_own 7 (sn_dic) gd.nd)
    (sb_cons (ss_own 8 (sn_lst (sa_nil)) gd.nd)
    (sb_cons (ss_for gd (si_range1  (by rfl) T.g_range (sf_mul (se_var 2) (se_var 3))) (sg_name gd 9) (fun _ e1 => sb_cons (ss_set 10 (sf_add (se_var 4) (SF.se (sf_div (se_var 9) (se_var 3)))) gd.nd)
    (sb_cons (ss_set 11 (sf_add (se_var 5) (SF.se (sf_mod (se_var 9) (se_var 3)))) gd.nd)
    (sb_cons (ss_set 6 (sf_mod (SF.se (sf_mul (se_var 6) (SF.se (sf_int)))) (SF.se (sf_int))) gd.nd)
    (sb_cons (ss_own 12 (sn_lst (sa_nil)) gd.nd)
    (sb_cons (ss_if (SW.st (sw_and (st_dnotin gd (SF.se (sf_tup (sa_cons (sf_var 10) (sa_cons (sf_var 11) (sa_nil))))) (se_var 7)) (sw_and1 (st_ne gd (SF.se (sf_mod (SF.se (sf_div (se_var 6) (SF.se (sf_int)))) (SF.se (sf_int)))) (SF.se (sf_int)))))) (sb_cons (ss_if (SW.st (sw_and (st_lt gd (SF.se (sf_add (se_var 11) (SF.se (sf_int)))) (SF.se (sf_add (se_var 5) (se_var 3)))) (sw_and1 (st_dnotin gd (SF.se (sf_tup (sa_cons (sf_var 10) (sa_cons (sf_add (se_var 11) (SF.se (sf_int))) (sa_nil))))) (se_var 7))))) (sb_one (ss_app 12 (sf_int))) (sb_nil))
    (sb_one (ss_if (st_lt gd (SF.se (sf_add (se_var 10) (SF.se (sf_int)))) (SF.se (sf_add (se_var 4) (se_var 2)))) (sb_one (ss_app 12 (sf_int))) (sb_nil)))) (sb_nil))
    (sb_one (ss_if (st_gt gd (SF.se (sf_len  (by rfl) T.g_len (se_var 12))) (SF.se (sf_int))) (sb_cons (ss_set 13 (sf_at (se_var 12) (SF.se (sf_mod (SF.se (sf_div (se_var 6) (SF.se (sf_int)))) (SF.se (sf_len  (by rfl) T.g_len (se_var 12)))))) gd.nd)
    (sb_cons (ss_app 8 (sf_tup (sa_cons (sf_var 10) (sa_cons (sf_var 11) (sa_cons (sf_var 13) (sa_nil))))))
    (sb_cons (ss_dput 7 (hu1 gd) (SF.se (sf_tup (sa_cons (sf_var 10) (sa_cons (sf_var 11) (sa_nil))))) (sf_bl))
    (sb_one (ss_dput 7 (hu1 gd) (SF.se (sf_tup (sa_cons (sf_add (se_var 10) (se_var 13)) (sa_cons (sf_sub (SF.se (sf_add (se_var 11) (SF.se (sf_int)))) (se_var 13)) (sa_nil))))) (sf_bl)))))) (sb_nil)))))))))
    (sb_one (ss_frz 8 (ss_ret (sf_tup (sa_cons (SN.sf (sn_sortd gd  (by rfl) T.g_sorted (se_var 7))) (sa_cons (sf_var 8) (sa_nil)))))))))))))))⟩
noncomputable abbrev s_law_spoilt : Stmt := top 15
theorem sc_law_spoilt : FnScope ["flags", "way_on", "at", "old", "head", "tail"] ["flags", "way_on", "at"] (defScope s_law_spoilt) := ⟨rfl, rfl, rfl, by decide +kernel, rfl, by decide +kernel, by decide +kernel⟩
theorem ok_law_spoilt {f : Addr} {fd : FuncData} (Dn : Dfn K mg "_law_spoilt" s_law_spoilt f fd) (T : Txt mg)  : Cal P w K mg base "_law_spoilt" ["flags", "way_on", "at"] 1 dn_law_spoilt :=
  ⟨f, fd, Dn.mg, Dn.fn.kp, Dn.fn.binds fun _ _ _ _ _ _ us hl => by obtain ⟨_, _, _, rfl⟩ := len3 hl; rfl, fn_okG Dn.fn sc_law_spoilt fun cdv A outer s H E hr gd G hx =>
    sb_cons (ss_set 3 (sf_at (se_var 0) (se_var 2)) gd.nd)
    (sb_cons (ss_set 4 (sf_slice (se_var 0) (so_none) (so_some (se_var 2))) gd.nd)
    (sb_cons (ss_set 5 (sf_slice (se_var 0) (so_some (SF.se (sf_add (se_var 2) (SF.se (sf_int))))) (so_none)) gd.nd)
    (sb_cons (ss_if (st_eq gd (se_var 1) (SF.se (sf_int))) (sb_one (ss_ret (sf_add (se_var 4) (se_var 5)))) (sb_nil))
    (sb_cons (ss_if (st_eq gd (se_var 1) (SF.se (sf_int))) (sb_one (ss_ret (sf_add (SF.se (sf_add (se_var 4) (SN.se (sn_lst (sa_cons (sf_var 3) (sa_cons (sf_var 3) (sa_nil))))))) (se_var 5)))) (sb_nil))
    (sb_cons (ss_if (st_eq gd (se_var 1) (SF.se (sf_int))) (sb_one (ss_ret (sf_add (SF.se (sf_add (SF.se (sf_add (se_var 4) (SF.se (sf_slice (se_var 5) (so_none) (so_some (SF.se (sf_int))))))) (SN.se (sn_lst (sa_cons (sf_var 3) (sa_nil)))))) (SF.se (sf_slice (se_var 5) (so_some (SF.se (sf_int))) (so_none)))))) (sb_nil))
    (sb_cons (ss_if (st_eq gd (se_var 1) (SF.se (sf_int))) (sb_one (ss_ret (sf_add (SF.se (sf_add (se_var 4) (SN.se (sn_lst (sa_cons (sf_tup (sa_cons (sf_at (se_var 3) (SF.se (sf_int))) (sa_cons (sf_at (se_var 3) (SF.se (sf_int))) (sa_cons (sf_sub (SF.se (sf_int)) (SF.se (sf_at (se_var 3) (SF.se (sf_int))))) (sa_nil))))) (sa_nil)))))) (se_var 5)))) (sb_nil))
    (sb_cons (ss_if (st_eq gd (se_var 1) (SF.se (sf_int))) (sb_one (ss_ret (sf_add (SF.se (sf_add (se_var 4) (SN.se (sn_lst (sa_cons (sf_tup (sa_cons (sf_at (se_var 3) (SF.se (sf_int))) (sa_cons (sf_at (se_var 3) (SF.se (sf_int))) (sa_cons (sf_at (SN.se (sn_lst (sa_cons (sf_int) (sa_cons (sf_neg (SF.se (sf_int))) (sa_nil))))) (SF.se (sf_mod (se_var 2) (SF.se (sf_int))))) (sa_nil))))) (sa_nil)))))) (se_var 5)))) (sb_nil))
    (sb_cons (ss_if (st_eq gd (se_var 1) (SF.se (sf_int))) (sb_one (ss_ret (sf_add (SF.se (sf_add (se_var 4) (SN.se (sn_lst (sa_cons (sf_tup (sa_cons (sf_add (SF.se (sf_at (se_var 3) (SF.se (sf_int)))) (SF.se (sf_int))) (sa_cons (sf_at (se_var 3) (SF.se (sf_int))) (sa_cons (sf_at (se_var 3) (SF.se (sf_int))) (sa_nil))))) (sa_nil)))))) (se_var 5)))) (sb_nil))
    (sb_cons (ss_if (st_eq gd (se_var 1) (SF.se (sf_int))) (sb_one (ss_ret (sf_add (se_var 0) (SN.se (sn_lst (sa_cons (sf_tup (sa_cons (sf_add (SF.se (sf_at (SF.se (sf_at (se_var 0) (SF.se (sf_neg (SF.se (sf_int)))))) (SF.se (sf_int)))) (SF.se (sf_int))) (sa_cons (sf_at (SF.se (sf_at (se_var 0) (SF.se (sf_neg (SF.se (sf_int)))))) (SF.se (sf_int))) (sa_cons (sf_at (se_var 3) (SF.se (sf_int))) (sa_nil))))) (sa_nil))))))) (sb_nil))
    (sb_cons (ss_if (st_eq gd (se_var 1) (SF.se (sf_int))) (sb_one (ss_ret (sf_add (SN.se (sn_lst (sa_cons (sf_tup (sa_cons (sf_sub (SF.se (sf_sub (SF.se (sf_at (SF.se (sf_at (se_var 0) (SF.se (sf_int)))) (SF.se (sf_int)))) (SF.se (sf_int)))) (SF.se (sf_div (se_var 2) (SF.se (sf_int))))) (sa_cons (sf_at (SF.se (sf_at (se_var 0) (SF.se (sf_int)))) (SF.se (sf_int))) (sa_cons (sf_at (SF.se (sf_at (se_var 0) (SF.se (sf_int)))) (SF.se (sf_int))) (sa_nil))))) (sa_nil)))) (SF.se (sf_slice (se_var 0) (so_some (SF.se (sf_int))) (so_none)))))) (sb_nil))
    (sb_cons (ss_if (st_eq gd (se_var 1) (SF.se (sf_int))) (sb_one (ss_ret (sf_add (SN.se (sn_lst (sa_cons (sf_tup (sa_cons (sf_at (SF.se (sf_at (se_var 0) (SF.se (sf_int)))) (SF.se (sf_int))) (sa_cons (sf_sub (SF.se (sf_sub (SF.se (sf_at (SF.se (sf_at (se_var 0) (SF.se (sf_int)))) (SF.se (sf_int)))) (SF.se (sf_int)))) (SF.se (sf_div (se_var 2) (SF.se (sf_int))))) (sa_cons (sf_at (SF.se (sf_at (se_var 0) (SF.se (sf_int)))) (SF.se (sf_int))) (sa_nil))))) (sa_nil)))) (SF.se (sf_slice (se_var 0) (so_some (SF.se (sf_int))) (so_none)))))) (sb_nil))
    (sb_one (ss_ret (sf_var 0))))))))))))))⟩
noncomputable abbrev s_law_fits : Stmt := top 16
theorem sc_law_fits : FnScope ["floor", "flags", "covered", "k", "row", "column", "lies"] ["floor", "flags"] (defScope s_law_fits) := ⟨rfl, rfl, rfl, by decide +kernel, rfl, by decide +kernel, by decide +kernel⟩
theorem ok_law_fits {f : Addr} {fd : FuncData} (Dn : Dfn K mg "_law_fits" s_law_fits f fd) (T : Txt mg)  : Cal P w K mg base "_law_fits" ["floor", "flags"] 1 dn_law_fits :=
  ⟨f, fd, Dn.mg, Dn.fn.kp, Dn.fn.binds fun _ _ _ _ _ _ us hl => by obtain ⟨_, _, rfl⟩ := len2 hl; rfl, fn_okG Dn.fn sc_law_fits fun cdv A outer s H E hr gd G hx =>
    sb_cons (ss_set 2 (SN.sf (sn_lst (sa_nil))) gd.nd)
    (sb_cons (ss_for gd (si_range1  (by rfl) T.g_range (sf_len  (by rfl) T.g_len (se_var 1))) (sg_name gd 3) (fun _ e1 => sb_cons (ss_set 4 (sf_at (SF.se (sf_at (se_var 1) (se_var 3))) (SF.se (sf_int))) gd.nd)
    (sb_cons (ss_set 5 (sf_at (SF.se (sf_at (se_var 1) (se_var 3))) (SF.se (sf_int))) gd.nd)
    (sb_cons (ss_set 6 (sf_at (SF.se (sf_at (se_var 1) (se_var 3))) (SF.se (sf_int))) gd.nd)
    (sb_cons (ss_if (SW.st (sw_or (SW.st (sw_and (st_ne gd (se_var 6) (SF.se (sf_int))) (sw_and1 (st_ne gd (se_var 6) (SF.se (sf_int)))))) (sw_or1 (SW.st (sw_and (st_gt gd (se_var 3) (SF.se (sf_int))) (sw_and1 (st_ge gd (SF.se (sf_slice (SF.se (sf_at (se_var 1) (SF.se (sf_sub (se_var 3) (SF.se (sf_int)))))) (so_none) (so_some (SF.se (sf_int))))) (SF.se (sf_slice (SF.se (sf_at (se_var 1) (se_var 3))) (so_none) (so_some (SF.se (sf_int)))))))))))) (sb_one (ss_ret (sf_bl))) (sb_nil))
    (sb_one (ss_set 2 (sf_add (se_var 2) (SN.se (sn_lst (sa_cons (sf_tup (sa_cons (sf_var 4) (sa_cons (sf_var 5) (sa_nil)))) (sa_cons (sf_tup (sa_cons (sf_add (se_var 4) (se_var 6)) (sa_cons (sf_sub (SF.se (sf_add (se_var 5) (SF.se (sf_int)))) (se_var 6)) (sa_nil)))) (sa_nil)))))) gd.nd)))))))
    (sb_one (ss_ret (sf_eq gd (SN.se (sn_sort gd  (by rfl) T.g_sorted (se_var 2))) (se_var 0)))))⟩
noncomputable abbrev s_law : Stmt := top 17
theorem sc_law : FnScope ["script", "made", "floor", "flags", "row", "flag", "handed", "listed", "found"] ["script"] (defScope s_law) := ⟨rfl, rfl, rfl, by decide +kernel, rfl, by decide +kernel, by decide +kernel⟩
theorem fok_law {f : Addr} {fd : FuncData} (Dn : Dfn K mg "law" s_law f fd) (T : Txt mg) (C_law_laid : Cal P w K mg base "_law_laid" ["script"] 2 dn_law_laid) (C_law_spoilt : Cal P w K mg base "_law_spoilt" ["flags", "way_on", "at"] 1 dn_law_spoilt) (C_law_cell_at : Cal P w K mg base "_law_cell_at" ["script", "k"] 1 dn_law_cell_at) (C_is_laying : Cal P w K mg base "is_laying" ["floor", "flags"] 3 dn_is_laying) (C_law_fits : Cal P w K mg base "_law_fits" ["floor", "flags"] 1 dn_law_fits) : FnOk P w K mg base CX0 4 f fd ["script"] (spD K 1 dn_law) := fn_okG Dn.fn sc_law fun cdv A outer s H E hr gd G hx =>
    sb_cons (ss_set 1 (sf_cal (x := "_law_laid") (ps := ["script"]) (k := 2) (j := 3) (dn := dn_law_laid) (by exact C_law_laid) hx (by exact hr) (by decide) (by rfl) (sa_cons (sf_var 0) (sa_nil))) gd.nd)
    (sb_cons (ss_set 2 (sf_at (se_var 1) (SF.se (sf_int))) gd.nd)
    (sb_cons (ss_set 3 (sf_at (se_var 1) (SF.se (sf_int))) gd.nd)
    (sb_cons (ss_if (st_gt gd (SF.se (sf_len  (by rfl) T.g_len (se_var 3))) (SF.se (sf_int))) (sb_one (ss_set 3 (sf_cal (x := "_law_spoilt") (ps := ["flags", "way_on", "at"]) (k := 1) (j := 3) (dn := dn_law_spoilt) (by exact C_law_spoilt) hx (by exact hr) (by decide) (by rfl) (sa_cons (sf_var 3) (sa_cons (sf_mod (SF.se (sf_cal (x := "_law_cell_at") (ps := ["script", "k"]) (k := 1) (j := 3) (dn := dn_law_cell_at) (by exact C_law_cell_at) hx (by exact hr) (by decide) (by rfl) (sa_cons (sf_var 0) (sa_cons (sf_int) (sa_nil))))) (SF.se (sf_int))) (sa_cons (sf_mod (SF.se (sf_cal (x := "_law_cell_at") (ps := ["script", "k"]) (k := 1) (j := 3) (dn := dn_law_cell_at) (by exact C_law_cell_at) hx (by exact hr) (by decide) (by rfl) (sa_cons (sf_var 0) (sa_cons (sf_int) (sa_nil))))) (SF.se (sf_len  (by rfl) T.g_len (se_var 3)))) (sa_nil))))) gd.nd)) (sb_nil))
    (sb_cons (ss_set 4 (sf_mod (SF.se (sf_cal (x := "_law_cell_at") (ps := ["script", "k"]) (k := 1) (j := 3) (dn := dn_law_cell_at) (by exact C_law_cell_at) hx (by exact hr) (by decide) (by rfl) (sa_cons (sf_var 0) (sa_cons (sf_int) (sa_nil))))) (SF.se (sf_int))) gd.nd)
    (sb_cons (ss_if (st_eq gd (SF.se (sf_mod (SF.se (sf_cal (x := "_law_cell_at") (ps := ["script", "k"]) (k := 1) (j := 3) (dn := dn_law_cell_at) (by exact C_law_cell_at) hx (by exact hr) (by decide) (by rfl) (sa_cons (sf_var 0) (sa_cons (sf_int) (sa_nil))))) (SF.se (sf_int)))) (SF.se (sf_int))) (sb_cons (ss_set 2 (SN.sf (sn_sortset gd  (by rfl) T.g_sorted  (by rfl) T.g_set (SF.se (sf_add (se_var 2) (SN.se (sn_lst (sa_cons (sf_tup (sa_cons (sf_var 4) (sa_cons (sf_int) (sa_nil)))) (sa_cons (sf_tup (sa_cons (sf_add (se_var 4) (SF.se (sf_int))) (sa_cons (sf_int) (sa_nil)))) (sa_nil))))))))) gd.nd)
    (sb_one (ss_set 3 (SN.sf (sn_sort gd  (by rfl) T.g_sorted (SF.se (sf_add (SN.se (sn_comp gd hx (si_list (sf_at (se_var 1) (SF.se (sf_int)))) (⟨cs_of rfl (by decide +kernel) (by decide +kernel) (by repeat first | exact True.intro | refine And.intro (by first | (intro h; exact absurd h (by decide)) | (intro _; exact Or.inl rfl) | (intro _; exact Or.inr rfl)) ?_), loc_of (N := ["script", "made", "floor", "flags", "row", "flag", "handed", "listed", "found"]) (by decide +kernel), hset_n _ , fun _ _ _ _ => sg_name (gd_in gd) 5, fun _ _ _ _ _ e1 => sc_one (st_ne (gd_in gd) (SF.se (sf_slice (se_var 5) (so_none) (so_some (SF.se (sf_int))))) (SF.se (sf_tup (sa_cons (sf_var 4) (sa_cons (sf_int) (sa_nil)))))), fun _ _ _ _ _ e1 => sf_var 5⟩))) (SN.se (sn_lst (sa_cons (sf_tup (sa_cons (sf_var 4) (sa_cons (sf_int) (sa_cons (sf_int) (sa_nil))))) (sa_nil)))))))) gd.nd))) (sb_nil))
    (sb_cons (ss_set 6 (SN.sf (sn_list  (by rfl) T.g_list (se_var 2))) gd.nd)
    (sb_cons (ss_set 7 (SN.sf (sn_list  (by rfl) T.g_list (se_var 3))) gd.nd)
    (sb_cons (ss_set 8 (sf_cal (x := "is_laying") (ps := ["floor", "flags"]) (k := 3) (j := 3) (dn := dn_is_laying) (by exact C_is_laying) hx (by exact hr) (by decide) (by rfl) (sa_cons (sf_var 6) (sa_cons (sf_var 7) (sa_nil)))) gd.nd)
    (sb_cons (ss_if (SW.st (sw_or (st_not (st_val (SF.se (sf_isi .bool  (by rfl) T.g_isinstance  (by rfl) T.g_bool (se_var 8))))) (sw_or (st_ne gd (se_var 6) (se_var 2)) (sw_or1 (st_ne gd (se_var 7) (se_var 3)))))) (sb_one (ss_ret (sf_bl))) (sb_nil))
    (sb_one (ss_ret (sf_eq gd (se_var 8) (SF.se (sf_cal (x := "_law_fits") (ps := ["floor", "flags"]) (k := 1) (j := 3) (dn := dn_law_fits) (by exact C_law_fits) hx (by exact hr) (by decide) (by rfl) (sa_cons (sf_var 2) (sa_cons (sf_var 3) (sa_nil)))))))))))))))))
theorem law_F {h : Heap} {fa : Addr} (KX : K.In h) (GX : h.Ns mainGlobals mg) (hfa : mg "law" = some (.ref fa))
    (e_on_board : ∃ f, Ent K "on_board" s_on_board f)
    (e_check_floor : ∃ f, Ent K "check_floor" s_check_floor f)
    (e_squares_under : ∃ f, Ent K "squares_under" s_squares_under f)
    (e_are_in_order : ∃ f, Ent K "are_in_order" s_are_in_order f)
    (e_all_under : ∃ f, Ent K "all_under" s_all_under f)
    (e_is_laying : ∃ f, Ent K "is_laying" s_is_laying f)
    (e_law_cell_at : ∃ f, Ent K "_law_cell_at" s_law_cell_at f)
    (e_law_laid : ∃ f, Ent K "_law_laid" s_law_laid f)
    (e_law_spoilt : ∃ f, Ent K "_law_spoilt" s_law_spoilt f)
    (e_law_fits : ∃ f, Ent K "_law_fits" s_law_fits f)
    (e_law : ∃ f, Ent K "law" s_law f)
    (z_SIDE : ∃ t, PySem.W.nsIn K mainGlobals "SIDE" = some (some (.int 8 t)))
    (z_zip : PySem.W.nsIn K mainGlobals "zip" = some none)
    (z_all : PySem.W.nsIn K mainGlobals "all" = some none)
    (z_sorted : PySem.W.nsIn K mainGlobals "sorted" = some none)
    (z_len : PySem.W.nsIn K mainGlobals "len" = some none)
    (z_range : PySem.W.nsIn K mainGlobals "range" = some none)
    (z_set : PySem.W.nsIn K mainGlobals "set" = some none)
    (z_list : PySem.W.nsIn K mainGlobals "list" = some none)
    (z_isinstance : PySem.W.nsIn K mainGlobals "isinstance" = some none)
    (z_bool : PySem.W.nsIn K mainGlobals "bool" = some none)
    : ∃ fd : FuncData, (∀ (s : Shared) (v : Value), BindsTo s fd ⟨[v], []⟩ [("script", v)]) ∧ ∀ base : Heap, K.In base → base.Ns mainGlobals mg → FnOk P w K mg base CX0 4 fa fd ["script"] (spD K 1 dn_law) := by
  obtain ⟨f_on_board, e_on_board⟩ := e_on_board
  obtain ⟨fd_on_board, d_on_board⟩ := e_on_board.dfn KX GX
  obtain ⟨f_check_floor, e_check_floor⟩ := e_check_floor
  obtain ⟨fd_check_floor, d_check_floor⟩ := e_check_floor.dfn KX GX
  obtain ⟨f_squares_under, e_squares_under⟩ := e_squares_under
  obtain ⟨fd_squares_under, d_squares_under⟩ := e_squares_under.dfn KX GX
  obtain ⟨f_are_in_order, e_are_in_order⟩ := e_are_in_order
  obtain ⟨fd_are_in_order, d_are_in_order⟩ := e_are_in_order.dfn KX GX
  obtain ⟨f_all_under, e_all_under⟩ := e_all_under
  obtain ⟨fd_all_under, d_all_under⟩ := e_all_under.dfn KX GX
  obtain ⟨f_is_laying, e_is_laying⟩ := e_is_laying
  obtain ⟨fd_is_laying, d_is_laying⟩ := e_is_laying.dfn KX GX
  obtain ⟨f_law_cell_at, e_law_cell_at⟩ := e_law_cell_at
  obtain ⟨fd_law_cell_at, d_law_cell_at⟩ := e_law_cell_at.dfn KX GX
  obtain ⟨f_law_laid, e_law_laid⟩ := e_law_laid
  obtain ⟨fd_law_laid, d_law_laid⟩ := e_law_laid.dfn KX GX
  obtain ⟨f_law_spoilt, e_law_spoilt⟩ := e_law_spoilt
  obtain ⟨fd_law_spoilt, d_law_spoilt⟩ := e_law_spoilt.dfn KX GX
  obtain ⟨f_law_fits, e_law_fits⟩ := e_law_fits
  obtain ⟨fd_law_fits, d_law_fits⟩ := e_law_fits.dfn KX GX
  obtain ⟨f_law, e_law⟩ := e_law
  obtain ⟨fd_law, d_law⟩ := e_law.dfn KX GX
  obtain ⟨t_SIDE, z_SIDE⟩ := z_SIDE
  have T : Txt mg := ⟨⟨_, PySem.W.mg_of KX GX z_SIDE⟩, PySem.W.mg_none_of KX GX z_zip, PySem.W.mg_none_of KX GX z_all, PySem.W.mg_none_of KX GX z_sorted, PySem.W.mg_none_of KX GX z_len, PySem.W.mg_none_of KX GX z_range, PySem.W.mg_none_of KX GX z_set, PySem.W.mg_none_of KX GX z_list, PySem.W.mg_none_of KX GX z_isinstance, PySem.W.mg_none_of KX GX z_bool⟩
  refine law_end hfa d_law (Fun.one d_law.fn fun _ _ _ _ _ _ _ => rfl) fun base => ?_
  have C_law_cell_at : Cal P w K mg base "_law_cell_at" ["script", "k"] 1 dn_law_cell_at := ok_law_cell_at d_law_cell_at T
  have C_law_laid : Cal P w K mg base "_law_laid" ["script"] 2 dn_law_laid := ok_law_laid d_law_laid T C_law_cell_at
  have C_law_spoilt : Cal P w K mg base "_law_spoilt" ["flags", "way_on", "at"] 1 dn_law_spoilt := ok_law_spoilt d_law_spoilt T
  have C_on_board : Cal P w K mg base "on_board" ["square"] 1 dn_on_board := ok_on_board d_on_board T
  have C_check_floor : Cal P w K mg base "check_floor" ["floor"] 2 dn_check_floor := ok_check_floor d_check_floor T C_on_board
  have C_are_in_order : Cal P w K mg base "are_in_order" ["flags"] 1 dn_are_in_order := ok_are_in_order d_are_in_order T
  have C_squares_under : Cal P w K mg base "squares_under" ["flag"] 1 dn_squares_under := ok_squares_under d_squares_under T
  have C_all_under : Cal P w K mg base "all_under" ["flags"] 2 dn_all_under := ok_all_under d_all_under T C_squares_under
  have C_is_laying : Cal P w K mg base "is_laying" ["floor", "flags"] 3 dn_is_laying := ok_is_laying d_is_laying T C_check_floor C_are_in_order C_all_under
  have C_law_fits : Cal P w K mg base "_law_fits" ["floor", "flags"] 1 dn_law_fits := ok_law_fits d_law_fits T
  exact fok_law d_law T C_law_laid C_law_spoilt C_law_cell_at C_is_laying C_law_fits
end
theorem walk {l : PySem.W.OpenLaw} {q : Program} {loose : List Str} {XP : (Str → Option Value) → Heap → Prop} {YP : World → Heap → Prop} {d : DefRec} {K : Params → PySem.W.Frag} (hn : l.most = some 63) (hdf : d.params.defaults = [])
    (hY : ∀ (w : World) (h : Heap), YP w h → (K w.params).In h) (hm : ∀ ns : List Int, ns.length ≤ 63 → dn_law [.scr ns] = .ok (.bl true))
    (F : ∀ (w : World) (mg : Str → Option Value) (fa : Addr) (h : Heap), (K w.params).In h → h.Ns mainGlobals mg → mg d.name = some (.ref fa) →
      ∃ fd : FuncData, (∀ (s : Shared) (u : Value), BindsTo s fd ⟨[u], []⟩ [("script", u)]) ∧ ∀ base : Heap, (K w.params).In base → base.Ns mainGlobals mg → FnOk l.prog w (K w.params) mg base CX0 4 fa fd ["script"] (spD (K w.params) 1 dn_law)) :
    PySem.W.WalkO q loose XP YP l.row.toRowW d [] (fun f vs => PySem.call f vs) :=
  L2.walk_ofK (n := 63) (k := 4) (x := "script") (CX := CX0) (sp := fun K => spD K 1 dn_law) hn (by decide) hdf ⟨rfl, by decide, by decide⟩ hY F (fun K H a ns hl _ hS => sp_law hl hS hm) fun _ _ _ _ z => z
end M

set_option Elab.async false
set_option linter.all false
open PySem PySem.W PyProof.Rows
noncomputable def PySem.W.Fast.tw7276032760049906955 : PySem.Program := PySem.Challenge.pw_flagfloor_k02_what_is_a_laying
theorem PySem.W.Fast.te7276032760049906955 : PySem.Challenge.pw_flagfloor_k02_what_is_a_laying = PySem.W.Fast.tw7276032760049906955 := rfl
set_option maxRecDepth 100000 in
set_option maxHeartbeats 0 in
theorem PySem.Challenge.cw_flagfloor_k02_what_is_a_laying_holds : PySem.Challenge.rw_flagfloor_k02_what_is_a_laying.Holds := by
  w_on; o_law; k_head; (case hw => w_witness2)
  k_fill
  refine M.walk (l := PySem.Challenge.rw_flagfloor_k02_what_is_a_laying) rfl rfl (fun w h Y => PySem.W.kIn_of Y) M.law_true ?F
  case F =>
    intro w mg fa h KX GX hmg
    refine' M.law_F KX GX hmg
      (M.ent_ex KX ?a_on_board ?l_on_board ?c_on_board ?k_on_board)
      (M.ent_ex KX ?a_check_floor ?l_check_floor ?c_check_floor ?k_check_floor)
      (M.ent_ex KX ?a_squares_under ?l_squares_under ?c_squares_under ?k_squares_under)
      (M.ent_ex KX ?a_are_in_order ?l_are_in_order ?c_are_in_order ?k_are_in_order)
      (M.ent_ex KX ?a_all_under ?l_all_under ?c_all_under ?k_all_under)
      (M.ent_ex KX ?a_is_laying ?l_is_laying ?c_is_laying ?k_is_laying)
      (M.ent_ex KX ?a_law_cell_at ?l_law_cell_at ?c_law_cell_at ?k_law_cell_at)
      (M.ent_ex KX ?a_law_laid ?l_law_laid ?c_law_laid ?k_law_laid)
      (M.ent_ex KX ?a_law_spoilt ?l_law_spoilt ?c_law_spoilt ?k_law_spoilt)
      (M.ent_ex KX ?a_law_fits ?l_law_fits ?c_law_fits ?k_law_fits)
      (M.ent_ex KX ?a_law ?l_law ?c_law ?k_law)
      (M.int_ex KX ?z_SIDE)
      ?z_zip
      ?z_all
      ?z_sorted
      ?z_len
      ?z_range
      ?z_set
      ?z_list
      ?z_isinstance
      ?z_bool
    (case a_on_board => k_is); (case l_on_board => k_is); (case c_on_board => k_is); (case k_on_board => k_is)
    (case a_check_floor => k_is); (case l_check_floor => k_is); (case c_check_floor => k_is); (case k_check_floor => k_is)
    (case a_squares_under => k_is); (case l_squares_under => k_is); (case c_squares_under => k_is); (case k_squares_under => k_is)
    (case a_are_in_order => k_is); (case l_are_in_order => k_is); (case c_are_in_order => k_is); (case k_are_in_order => k_is)
    (case a_all_under => k_is); (case l_all_under => k_is); (case c_all_under => k_is); (case k_all_under => k_is)
    (case a_is_laying => k_is); (case l_is_laying => k_is); (case c_is_laying => k_is); (case k_is_laying => k_is)
    (case a_law_cell_at => k_is); (case l_law_cell_at => k_is); (case c_law_cell_at => k_is); (case k_law_cell_at => k_is)
    (case a_law_laid => k_is); (case l_law_laid => k_is); (case c_law_laid => k_is); (case k_law_laid => k_is)
    (case a_law_spoilt => k_is); (case l_law_spoilt => k_is); (case c_law_spoilt => k_is); (case k_law_spoilt => k_is)
    (case a_law_fits => k_is); (case l_law_fits => k_is); (case c_law_fits => k_is); (case k_law_fits => k_is)
    (case a_law => k_is); (case l_law => k_is); (case c_law => k_is); (case k_law => k_is)
    (case z_SIDE => k_is)
    (case z_zip => k_is)
    (case z_all => k_is)
    (case z_sorted => k_is)
    (case z_len => k_is)
    (case z_range => k_is)
    (case z_set => k_is)
    (case z_list => k_is)
    (case z_isinstance => k_is)
    (case z_bool => k_is)

