import PyProof.Rows.All
import Wide.All
import OpenK.AllK
import Wide.FinOn
import Lean
import PyProof.EqAt
import PyProof.EqKinds
import PyProof.TupleCall
import PySem.Challenge.RW_flagfloor_k03_whole_laid_or_a_wall
noncomputable section
set_option bootstrap.genMatcherCode false
set_option compiler.extract_closed false
local macro_rules | `(tactic| omega) => `(tactic| lia)

set_option Elab.async false
set_option linter.all false
set_option maxRecDepth 100000

namespace L2
open PySem PySem.Spec PyProof.Rows

noncomputable abbrev Key := Sum Int Str
noncomputable def keyIs : Key → Value → Bool
  | .inl k, v => Value.isInt k v
  | .inr x, v => Value.isStrOf x v
noncomputable def keyH (w : World) : Key → Int
  | .inl k => hashInt k
  | .inr x => hashStr w x
theorem keyIs_shape : ∀ {k : Key} {v : Value}, keyIs k v = true → (∃ i t, k = Sum.inl i ∧ v = Value.int i t) ∨ (∃ x t, k = Sum.inr x ∧ v = Value.str x t)
  | .inl i, v, h => by
    obtain ⟨t, e⟩ := Value.isInt_shape (k := i) (v := v) h
    exact .inl ⟨i, t, rfl, e⟩
  | .inr x, v, h => by
    obtain ⟨t, e⟩ := Value.isStrOf_shape (x := x) (v := v) h
    exact .inr ⟨x, t, rfl, e⟩
theorem keyIs_int (i : Int) (t : Tok) : keyIs (.inl i) (.int i t) = true := by simp [keyIs, Value.isInt]
theorem keyIs_str (x : Str) (t : Tok) : keyIs (.inr x) (.str x t) = true := by simp [keyIs, Value.isStrOf]
theorem key_ll (a b : Int) : decide ((Sum.inl a : Key) = Sum.inl b) = (a == b) := by
  by_cases e : a = b
  · subst e; simp
  · have h : ¬ (Sum.inl a : Key) = Sum.inl b := fun q => e (Sum.inl.inj q)
    rw [decide_eq_false h]
    exact (beq_eq_false_iff_ne.mpr e).symm
theorem key_rr (a b : Str) : decide ((Sum.inr a : Key) = Sum.inr b) = decide (a = b) := by
  by_cases e : a = b
  · subst e; simp
  · have h : ¬ (Sum.inr a : Key) = Sum.inr b := fun q => e (Sum.inr.inj q)
    rw [decide_eq_false h, decide_eq_false e]
theorem key_lr (a : Int) (b : Str) : decide ((Sum.inl a : Key) = Sum.inr b) = false := decide_eq_false (fun q => nomatch q)
theorem key_rl (a : Str) (b : Int) : decide ((Sum.inr a : Key) = Sum.inl b) = false := decide_eq_false (fun q => nomatch q)

noncomputable def mixKind (prog : Program) (w : World) : PySem.KeyKind prog w Key where
  is := keyIs
  hash := keyH w
  inj := fun v a b ha hb => by
    rcases keyIs_shape ha with ⟨i, t, rfl, rfl⟩ | ⟨x, t, rfl, rfl⟩
    · rcases keyIs_shape hb with ⟨j, u, rfl, e⟩ | ⟨y, u, rfl, e⟩
      · injection e with e1 _; rw [e1]
      · exact nomatch e
    · rcases keyIs_shape hb with ⟨j, u, rfl, e⟩ | ⟨y, u, rfl, e⟩
      · exact nomatch e
      · injection e with e1 _; rw [e1]
  byValue := fun k v h => by
    rcases keyIs_shape h with ⟨i, t, rfl, rfl⟩ | ⟨x, t, rfl, rfl⟩ <;> rfl
  pyHash := fun hv h => by
    rcases keyIs_shape hv with ⟨i, t, rfl, rfl⟩ | ⟨x, t, rfl, rfl⟩
    · exact wpAny_pyHash_int h
    · exact wpAny_pyHash_str h
  eqBool := fun hu hv h => by
    rcases keyIs_shape hu with ⟨i, t, rfl, rfl⟩ | ⟨x, t, rfl, rfl⟩
    · rcases keyIs_shape hv with ⟨j, u, rfl, rfl⟩ | ⟨y, u, rfl, rfl⟩
      · rw [key_ll] at h; exact wpAny_eqBool_int h
      · rw [key_lr] at h; exact SeqAt.EqAt.int_str i t y u _ _ _ _ h
    · rcases keyIs_shape hv with ⟨j, u, rfl, rfl⟩ | ⟨y, u, rfl, rfl⟩
      · rw [key_rl] at h; exact SeqAt.EqAt.str_int x t j u _ _ _ _ h
      · rw [key_rr] at h; exact wpAny_eqBool_str h
  «strs» := fun k x t v h => by
    rcases keyIs_shape h with ⟨i, u, rfl, e⟩ | ⟨y, u, rfl, e⟩
    · exact nomatch e
    · injection e with e1 _
      subst e1
      cases v <;> rfl

theorem mixKind_int (prog : Program) (w : World) (i : Int) (t : Tok) : (mixKind prog w).is (.inl i) (.int i t) = true := keyIs_int i t
theorem mixKind_str (prog : Program) (w : World) (x : Str) (t : Tok) : (mixKind prog w).is (.inr x) (.str x t) = true := keyIs_str x t
end L2

namespace L2
open PySem PySem.Spec PyProof.Rows

inductive V where
  | non | bl (b : Bool) | int (i : Int) | str (x : Str) | byt (b : Array UInt8) | flt (b : UInt64) | ref (a : Addr) | ty (n : String)
  deriving DecidableEq

noncomputable def RelV : V → Value → Prop
  | .non, u => u = Value.none
  | .bl b, u => u = Value.bool b
  | .int i, u => ∃ t, u = Value.int i t
  | .str x, u => ∃ t, u = Value.str x t
  | .byt b, u => ∃ t, u = Value.bytes b t
  | .flt b, u => ∃ t, u = Value.float b t
  | .ref a, u => u = Value.ref a
  | .ty n, u => u = Value.type n

noncomputable abbrev Vals : List V → List Value → Prop := Paired RelV
theorem Vals.length {xs : List V} {us : List Value} (r : Vals xs us) : xs.length = us.length := Paired.length r
theorem Vals.get : ∀ {xs : List V} {us : List Value} {i : Nat} {x : V}, Vals xs us → xs[i]? = some x → ∃ u, us[i]? = some u ∧ RelV x u
  | _, _, _, _, .nil, e => by simp at e
  | _, _, 0, _, .cons r _, e => by simp at e; subst e; exact ⟨_, rfl, r⟩
  | _, _, i + 1, x, .cons _ t, e => by
    obtain ⟨u, h1, h2⟩ := Vals.get (i := i) (x := x) t (by simpa using e)
    exact ⟨u, by simpa using h1, h2⟩
theorem Vals.set {x : V} {u : Value} (r : RelV x u) : ∀ {xs : List V} {us : List Value} (i : Nat), Vals xs us → Vals (xs.set i x) (us.set i u)
  | _, _, _, .nil => .nil
  | _, _, 0, .cons _ t => .cons r t
  | _, _, i + 1, .cons q t => .cons q (Vals.set r i t)
theorem Vals.append : ∀ {xs ys : List V} {us ws : List Value}, Vals xs us → Vals ys ws → Vals (xs ++ ys) (us ++ ws)
  | _, _, _, _, .nil, s => s
  | _, _, _, _, .cons r t, s => .cons r (Vals.append t s)
theorem Vals.take : ∀ {xs : List V} {us : List Value} (n : Nat), Vals xs us → Vals (xs.take n) (us.take n)
  | _, _, 0, _ => .nil
  | _, _, _ + 1, .nil => .nil
  | _, _, n + 1, .cons r t => .cons r (Vals.take n t)
theorem Vals.drop : ∀ {xs : List V} {us : List Value} (n : Nat), Vals xs us → Vals (xs.drop n) (us.drop n)
  | _, _, 0, r => r
  | _, _, _ + 1, .nil => .nil
  | _, _, n + 1, .cons _ t => Vals.drop n t

noncomputable def RelO : Option V → Option Value → Prop
  | some v, some u => RelV v u
  | none, none => True
  | _, _ => False
noncomputable def KV {κ : Type} : List (κ × V) → List (κ × Value) → Prop := Paired fun (p : κ × V) (q : κ × Value) => p.1 = q.1 ∧ RelV p.2 q.2

noncomputable def kV : Key → V
  | .inl i => .int i
  | .inr x => .str x

inductive HO where
    | lst (xs : List V)
    | tup (xs : List V)
    | dK (kvs : List (Key × V)) | dT (kvs : List (List Key × V))
    | set (S : Int → Bool) (n : Nat)
    | ins (C dx : Addr) (fs : List (Str × V))
    | own (x : Addr)
    | xd (fs : List (Str × V))
    | met (f x : Addr)
    | rng (lo hi : Int)
    | frz (o : Obj) (u : HO)
    | tbl (ps : Array Value)
    | ext (φ : Heap → Prop)

noncomputable abbrev Hp := Addr → Option HO
noncomputable def upd (H : Hp) (a : Addr) (o : HO) : Hp := fun b => if b = a then some o else H b
theorem upd_same {H : Hp} {a : Addr} {o : HO} : upd H a o a = some o := by unfold upd; rw [if_pos rfl]
theorem upd_ne {H : Hp} {a b : Addr} {o : HO} (h : b ≠ a) : upd H a o b = H b := by unfold upd; rw [if_neg h]
theorem upd_upd {H : Hp} {a : Addr} {o u : HO} : upd (upd H a o) a u = upd H a u := by
  funext b; unfold upd; split <;> rfl
theorem ne_of {H : Hp} {a b : Addr} {o u : HO} (h : H a = some o) (h' : H b = some u) (d : o ≠ u) : a ≠ b := by
  intro e; subst e; rw [h] at h'; exact d (Option.some.inj h')
theorem ne_of_none {H : Hp} {a b : Addr} {o : HO} (h : H a = some o) (h' : H b = none) : a ≠ b := by
  intro e; subst e; rw [h] at h'; cases h'

section
variable (P : Program) (w : World)
noncomputable def ObjOk (H : Hp) (h : Heap) (a : Addr) : HO → Prop
  | .lst xs => xs.length ≤ sizeLine ∧ ∃ (its : List Value) (n : Nat), Vals xs its ∧ h.get? a = some { cls := .type "list", data := .seq its.toArray n }
  | .tup xs => xs.length ≤ sizeLine ∧ ∃ its : List Value, Vals xs its ∧ IsTup h a its.toArray
  | .dK kvs => kvs.length ≤ sizeLine ∧ (a == sysModules) = false ∧ ∃ vs, KV kvs vs ∧ h.DictOf (mixKind P w) a vs
  | .dT kvs => kvs.length ≤ sizeLine ∧ (a == sysModules) = false ∧ ∃ xs : List (List Key × Addr × Value),
      Paired (fun (p : List Key × V) (q : List Key × Addr × Value) => p.1 = q.1 ∧ H q.2.1 = some (.tup (p.1.map kV)) ∧ RelV p.2 q.2.2) kvs xs ∧
      ∃ o es ep, h.get? a = some o ∧ o.ExactDict ∧ o.data = .dict es ep ∧ es.toList = xs.map (entryOfKey (tupleKind (mixKind P w))) ∧ (xs.map (·.1)).Nodup
  | .set S n => h.SetOf (intKind P w) a S n
  | .ins C dx fs => H dx = some (.own a) ∧ fs.length ≤ 1000 ∧ dx ≠ a ∧ h.get? a = some (PySem.W.instObj C dx) ∧
      ∃ mA, h.Ns1 dx mA ∧ (∀ f, RelO (fs.lookup f) (mA f)) ∧ PySem.Within mA (fs.map (·.1))
  | .own _ => ∃ o, h.get? a = some o
  | .xd fs => ∃ mA, h.Ns1 a mA ∧ ∀ f, RelO (fs.lookup f) (mA f)
  | .rng lo hi => ∃ t u v, h.get? a = some { cls := .type "range", data := .fields #[.int lo t, .int hi u, .int 1 v] }
  | .frz o u => h.get? a = some o ∧ ObjOk H h a u
  | .tbl ps => h.get? a = some { cls := .none, data := .fields ps }
  | .met f x => h.get? a = some (PySem.W.methodObj (.ref f) (.ref x))
  | .ext φ => φ h ∧ (∃ o, h.get? a = some o) ∧ ∀ h1 h2 : Heap, φ h1 → (∀ o, h1.get? a = some o → h2.get? a = some o) → φ h2
noncomputable def HOk (H : Hp) (h : Heap) : Prop := ∀ a o, H a = some o → ObjOk P w H h a o
end

section
variable {P : Program} {w : World} {H H' : Hp} {h h' : Heap} {a : Addr} {o : HO}
theorem ObjOk.lt (x : ObjOk P w H h a o) : a < h.objs.size := by
  cases o with
  | lst xs => obtain ⟨_, _, _, _, e⟩ := x; exact Heap.lt_size e
  | tup xs => obtain ⟨_, _, _, p⟩ := x; exact p.lt
  | dK kvs => obtain ⟨_, _, _, _, o, _, _, e, _⟩ := x; exact Heap.lt_size e
  | dT kvs => obtain ⟨_, _, _, _, o, _, _, e, _⟩ := x; exact Heap.lt_size e
  | set S n => obtain ⟨o, _, _, _, e, _⟩ := x; exact Heap.lt_size e
  | ins C dx fs => obtain ⟨_, _, _, e, _⟩ := x; exact Heap.lt_size e
  | own y => obtain ⟨_, e⟩ := x; exact Heap.lt_size e
  | xd fs => obtain ⟨_, ⟨_, _, _, e, _⟩, _⟩ := x; exact Heap.lt_size e
  | rng lo hi => obtain ⟨_, _, _, e⟩ := x; exact Heap.lt_size e
  | frz ob u => obtain ⟨e, _⟩ := x; exact Heap.lt_size e
  | tbl ps => exact Heap.lt_size (show h.get? a = some _ from x)
  | met f y => exact Heap.lt_size (show h.get? a = some _ from x)
  | ext φ => obtain ⟨_, ⟨_, e⟩, _⟩ := x; exact Heap.lt_size e
theorem Paired.mapP {α β : Type} {F G : α → β → Prop} : ∀ {l₁ : List α} {l₂ : List β}, Paired F l₁ l₂ → (∀ a b, F a b → G a b) → Paired G l₁ l₂
  | _, _, .nil, _ => .nil
  | _, _, .cons r t, f => .cons (f _ _ r) (Paired.mapP t f)
theorem Paired.imp' {α β : Type} {F G : α → β → Prop} (f : ∀ a b, F a b → G a b) {l₁ : List α} {l₂ : List β} (r : Paired F l₁ l₂) : Paired G l₁ l₂ := Paired.mapP r f
theorem ObjOk.stay (x : ObjOk P w H h a o) (k : ∀ b u, (b = a ∨ H b = some (.own a)) → h.get? b = some u → h'.get? b = some u)
    (ho : ∀ b, H b = some (.own a) → H' b = some (.own a)) (ht : ∀ b xs, H b = some (.tup xs) → H' b = some (.tup xs)) : ObjOk P w H' h' a o := by
  induction o with
  | lst xs => obtain ⟨z, its, n, r, e⟩ := x; exact ⟨z, its, n, r, k _ _ (.inl rfl) e⟩
  | tup xs => obtain ⟨z, its, r, ob, e, c⟩ := x; exact ⟨z, its, r, ob, k _ _ (.inl rfl) e, c⟩
  | dK kvs => obtain ⟨z, y, vs, r, ob, es, ep, e, c⟩ := x; exact ⟨z, y, vs, r, ob, es, ep, k _ _ (.inl rfl) e, c⟩
  | dT kvs =>
    obtain ⟨z, y, xs, r, ob, es, ep, e, c⟩ := x
    exact ⟨z, y, xs, Paired.mapP r fun p q z => ⟨z.1, ht _ _ z.2.1, z.2.2⟩, ob, es, ep, k _ _ (.inl rfl) e, c⟩
  | set S n => obtain ⟨ob, es, ep, t, e, c⟩ := x; exact ⟨ob, es, ep, t, k _ _ (.inl rfl) e, c⟩
  | ins C dx fs =>
    obtain ⟨d, z, ne, e, mA, ⟨od, es, ep, e2, c⟩, r⟩ := x
    exact ⟨ho _ d, z, ne, k _ _ (.inl rfl) e, mA, ⟨od, es, ep, k _ _ (.inr d) e2, c⟩, r⟩
  | own y => obtain ⟨ob, e⟩ := x; exact ⟨ob, k _ _ (.inl rfl) e⟩
  | xd fs => obtain ⟨mA, ⟨od, es, ep, e, c⟩, r⟩ := x; exact ⟨mA, ⟨od, es, ep, k _ _ (.inl rfl) e, c⟩, r⟩
  | rng lo hi => obtain ⟨t, u, v, e⟩ := x; exact ⟨t, u, v, k _ _ (.inl rfl) e⟩
  | frz ob u ih => obtain ⟨e, q⟩ := x; exact ⟨k _ _ (.inl rfl) e, ih q⟩
  | tbl ps =>
    have e : h.get? a = some { cls := .none, data := .fields ps } := x
    show h'.get? a = some { cls := .none, data := .fields ps }
    exact k a _ (.inl rfl) e
  | met f y =>
    have e : h.get? a = some (PySem.W.methodObj (.ref f) (.ref y)) := x
    show h'.get? a = some (PySem.W.methodObj (.ref f) (.ref y))
    exact k a _ (.inl rfl) e
  | ext φ => obtain ⟨p, ⟨o, e⟩, st⟩ := x; exact ⟨st _ _ p fun o q => k _ _ (.inl rfl) q, ⟨o, k _ _ (.inl rfl) e⟩, st⟩
theorem HOk.lt (x : HOk P w H h) (e : H a = some o) : a < h.objs.size := (x a o e).lt
theorem HOk.fresh (x : HOk P w H h) (e : h.objs.size ≤ a) : H a = none := by
  cases q : H a with
  | none => rfl
  | some u => exact absurd (Nat.lt_of_lt_of_le (x.lt q) e) (Nat.lt_irrefl _)
theorem HOk.kept (x : HOk P w H h) (k : ∀ b u, h.get? b = some u → h'.get? b = some u) : HOk P w H h' := fun a o e =>
  (x a o e).stay (fun b u _ q => k b u q) (fun _ q => q) fun _ _ q => q
theorem HOk.laid (x : HOk P w H h) (k : ∀ b u, h.get? b = some u → h'.get? b = some u) (hp : h.objs.size ≤ a) (new : ObjOk P w (upd H a o) h' a o) : HOk P w (upd H a o) h' := fun b u e => by
  have hn := x.fresh hp
  by_cases hb : b = a
  · subst hb; rw [upd_same] at e; cases e; exact new
  · rw [upd_ne hb] at e
    exact (x b u e).stay (fun c v _ q => k c v q) (fun c q => by rw [upd_ne (ne_of_none q hn)]; exact q) fun c xs q => by rw [upd_ne (ne_of_none q hn)]; exact q
end

noncomputable def Rd (H : Hp) (a : Addr) (u : HO) : Prop := H a = some u ∨ ∃ o, H a = some (.frz o u)
theorem Rd.ok {P : Program} {w : World} {H : Hp} {h : Heap} {a : Addr} {u : HO} (r : Rd H a u) (x : HOk P w H h) : ObjOk P w H h a u := by
  rcases r with r | ⟨o, r⟩
  · exact x a u r
  · obtain ⟨_, q⟩ := x a _ r
    exact q
noncomputable def Mut : Option HO → Prop
  | some (.lst _) => True
  | some (.dK _) => True
  | some (.dT _) => True
  | some (.set _ _) => True
  | some (.ins _ _ _) => True
  | some (.ext _) => True
  | _ => False
section
variable {P : Program} {w : World} {H : Hp} {h h' : Heap} {x e : Addr} {o' : HO}
theorem HOk.write (ok : HOk P w H h) (mu : Mut (H x)) (he : e = x ∨ H e = some (.own x)) (k : ∀ b u, b ≠ e → h.get? b = some u → h'.get? b = some u) (heo : ∃ u, h'.get? e = some u)
    (new : ObjOk P w (upd H x o') h' x o') : HOk P w (upd H x o') h' := fun b u q => by
  have nown : ∀ c y, H c = some (.own y) → c ≠ x := fun c y r z => by subst z; rw [r] at mu; exact mu
  have ntup : ∀ c xs, H c = some (.tup xs) → c ≠ x := fun c xs r z => by subst z; rw [r] at mu; exact mu
  by_cases hb : b = x
  · subst hb; rw [upd_same] at q; cases q; exact new
  · rw [upd_ne hb] at q
    by_cases hbe : b = e
    · have q' : H b = some (.own x) := by
        rcases he with z | z
        · exact absurd (hbe.trans z) hb
        · rw [hbe]; exact z
      rw [q] at q'; cases q'
      obtain ⟨v, hv⟩ := heo
      exact ⟨v, by rw [hbe]; exact hv⟩
    · refine (ok b u q).stay (fun c v hc r => k c v ?_ r) (fun c r => by rw [upd_ne (nown c b r)]; exact r) fun c xs r => by rw [upd_ne (ntup c xs r)]; exact r
      rcases hc with rfl | hc
      · exact hbe
      · rintro rfl
        rcases he with z | z
        · exact nown c b hc z
        · rw [hc] at z; cases z; exact hb rfl
end

structure Un (fs ex : List Addr) (H H' : Hp) (h h' : Heap) : Prop where
  keep : ∀ b o, h.get? b = some o → H b = none → b ∉ fs → b ∉ ex → h'.get? b = some o
  slot : ∀ b o, h.get? b = some o → H b = none → b ∈ fs → b ∉ ex → ∃ sl, h'.get? b = some { o with slots := sl }
  free : ∀ b o, h.get? b = some o → H b = none → b ∉ ex → H' b = none
  there : ∀ b o, h.get? b = some o → b ∉ ex → ∃ o', h'.get? b = some o'
  tups : ∀ b xs, H b = some (.tup xs) → H' b = some (.tup xs)
  frzs : ∀ b o u, H b = some (.frz o u) → H' b = some (.frz o u)
  tbls : ∀ b ps, H b = some (.tbl ps) → ∃ more, H' b = some (.tbl (ps ++ more))
section
variable {fs fs' ex ex' : List Addr} {H H1 H2 : Hp} {h h1 h2 h' : Heap} {a x e : Addr} {o : HO}
theorem Un.any (u : Un fs ex H H1 h h1) {b : Addr} {ob : Obj} (q : h.get? b = some ob) (n : H b = none) (hx : b ∉ ex) : ∃ sl, h1.get? b = some { ob with slots := sl } := by
  by_cases hb : b ∈ fs
  · exact u.slot b ob q n hb hx
  · exact ⟨ob.slots, u.keep b ob q n hb hx⟩
theorem Un.kept (k : ∀ b u, h.get? b = some u → h'.get? b = some u) : Un fs ex H H h h' :=
  ⟨fun b ob q _ _ _ => k b ob q, fun b ob q _ _ _ => ⟨ob.slots, k b ob q⟩, fun _ _ _ n _ => n, fun b ob q _ => ⟨ob, k b ob q⟩, fun _ _ q => q, fun _ _ _ q => q, fun _ ps q => ⟨#[], by rw [q]; simp⟩⟩
theorem Un.refl : Un fs ex H H h h := Un.kept fun _ _ q => q
theorem Un.laid (k : ∀ b u, h.get? b = some u → h'.get? b = some u) (hp : h.objs.size ≤ a) (hn : H a = none) : Un fs ex H (upd H a o) h h' where
  keep := fun b u q _ _ _ => k b u q
  slot := fun b u q _ _ _ => ⟨u.slots, k b u q⟩
  free := fun b u q n _ => by rw [upd_ne (Nat.ne_of_lt (Nat.lt_of_lt_of_le (Heap.lt_size q) hp))]; exact n
  there := fun b u q _ => ⟨u, k b u q⟩
  tups := fun b xs q => by rw [upd_ne (ne_of_none q hn)]; exact q
  frzs := fun b u xs q => by rw [upd_ne (ne_of_none q hn)]; exact q
  tbls := fun b ps q => ⟨#[], by rw [upd_ne (ne_of_none q hn), q]; simp⟩
theorem Un.write (mu : Mut (H x)) (he : e = x ∨ H e = some (.own x)) (k : ∀ b u, b ≠ e → h.get? b = some u → h'.get? b = some u) (heo : ∃ u, h'.get? e = some u) : Un fs ex H (upd H x o) h h' := by
  have hx : ∀ b, H b = none → b ≠ x := fun b n z => by subst z; rw [n] at mu; exact mu
  have hb : ∀ b, H b = none → b ≠ e := fun b n z => by
    subst z
    rcases he with r | r
    · exact hx b n r
    · rw [n] at r; cases r
  have hm : ∀ b u, H b = some u → ¬ Mut (some u) → b ≠ x := fun b u q nm z => by subst z; rw [q] at mu; exact nm mu
  refine ⟨fun b u q n _ _ => k b u (hb b n) q, fun b u q n _ _ => ⟨u.slots, k b u (hb b n) q⟩, fun b u q n _ => by rw [upd_ne (hx b n)]; exact n, fun b u q _ => ?_,
    fun b xs q => by rw [upd_ne (hm b _ q fun z => z)]; exact q, fun b u xs q => by rw [upd_ne (hm b _ q fun z => z)]; exact q, fun b ps q => ⟨#[], by rw [upd_ne (hm b _ q fun z => z), q]; simp⟩⟩
  by_cases hbe : b = e
  · subst hbe; exact heo
  · exact ⟨u, k b u hbe q⟩
end

noncomputable def trk (h : Heap) (H : Hp) : List Addr := (List.range h.objs.size).filter fun a => (H a).isSome
noncomputable def hidT (h : Heap) (H : Hp) : Heap := PySem.W.hideAll h (trk h H)
theorem hidT_size (h : Heap) (H : Hp) : (hidT h H).objs.size = h.objs.size := PySem.W.hideAll_size _ _
theorem hidT_get {h : Heap} {H : Hp} {b : Addr} {o : Obj} (e : h.get? b = some o) (n : H b = none) : (hidT h H).get? b = some o :=
  PySem.W.hideAll_get _ e fun hm => by
    have q : (H b).isSome = true := (List.mem_filter.mp hm).2
    rw [n] at q; simp at q
theorem of_hidT {h : Heap} {H : Hp} {b : Addr} {o : Obj} (e : (hidT h H).get? b = some o) : h.get? b = some o ∧ H b = none := by
  have e' : h.get? b = some o := PySem.W.of_hideAll (trk h H) e
  refine ⟨e', ?_⟩
  cases q : H b with
  | none => rfl
  | some x =>
    have hm : b ∈ trk h H := List.mem_filter.mpr ⟨List.mem_range.mpr (Heap.lt_size e'), by simp [q]⟩
    have z : (hidT h H).get? b = none := PySem.W.hideAll_none (trk h H) hm
    rw [z] at e; cases e

noncomputable def allNews (g h : Heap) (L : Addr) : List (Addr × Obj) := (List.range h.objs.size).filterMap fun a => if a = L ∨ (g.get? a).isSome = true then none else (h.get? a).map fun o => (a, o)
theorem mem_allNews {g h : Heap} {L a : Addr} {o : Obj} (h1 : a ≠ L) (h2 : g.get? a = none) (h3 : h.get? a = some o) : (a, o) ∈ allNews g h L :=
  List.mem_filterMap.mpr ⟨a, List.mem_range.mpr (Heap.lt_size h3), by simp [h1, h2, h3]⟩
theorem of_mem_allNews {g h : Heap} {L : Addr} {p : Addr × Obj} (hp : p ∈ allNews g h L) : p.1 ≠ L ∧ g.get? p.1 = none ∧ h.get? p.1 = some p.2 := by
  obtain ⟨b, _, e⟩ := List.mem_filterMap.mp hp
  split at e
  · cases e
  · rename_i hn
    cases q : h.get? b with
    | none => rw [q] at e; simp at e
    | some u =>
      rw [q] at e
      simp only [Option.map_some, Option.some.injEq] at e
      subst e
      refine ⟨fun z => hn (.inl z), ?_, q⟩
      show g.get? b = none
      cases r : g.get? b with
      | none => rfl
      | some v => exact (hn (.inr (by simp [r]))).elim
noncomputable def rest (g h : Heap) (L d : Addr) : List (Addr × Obj) := (allNews g h L).filter fun p => decide (p.1 ≠ d)
theorem news_all {g h : Heap} {L : Addr} : News g L h (allNews g h L) := fun p hp => let ⟨a, b, c⟩ := of_mem_allNews hp; ⟨c, a, b⟩
end L2

namespace L2
open PySem PySem.Spec PyProof.Rows

structure Mod (K : PySem.W.Frag) (mg : Str → Option Value) (base : Heap) : Prop where
  kin : K.In base
  glob : base.Ns mainGlobals mg
  blt : ∃ mb, base.Ns builtinsNs mb ∧ ∀ x : Str, x ≠ "__name__" → mb x = bootBuiltins x
  nolimit : base.NoLimit

structure Cx where
  prog : Program
  w : World
  K : PySem.W.Frag
  mg : Str → Option Value
  base : Heap
  A : Around
  N : List Str
  s₀ : Shared
  H₀ : Hp
  env : Env
  outer : List Env
  stack : List Env
  ex : List Addr
  fn : Str → Bool
  calm : Bool
  pn : List (Addr × Obj)
  xe : Value → Shared → Prop
noncomputable def frs (l : List Env) : List Addr := l.filterMap (·.frame)
noncomputable abbrev Cx.fs (X : Cx) : List Addr := frs X.outer

noncomputable def Vis (sc : Scope) (x : Str) : Prop := sc.names.lookup x = some .local ∨ sc.names.lookup x = some .cell ∨ sc.names.lookup x = some .free
noncomputable def Loc (sc : Scope) (x : Str) : Prop := sc.names.lookup x = some .local ∨ sc.names.lookup x = some .cell
noncomputable def Look (env : Env) (h : Heap) (m : Str → Option Value) (x : Str) (u : Value) : Prop :=
  (env.kindOf x = some .local ∧ m x = some u) ∨ ((env.kindOf x = some .cell ∨ env.kindOf x = some .free) ∧ ∃ c, env.cells.lookup x = some c ∧ h.IsCell c (some u))

structure Cx.Ok (X : Cx) : Prop where
  mod : Mod X.K X.mg X.base
  kind : X.env.scope.kind = .function
  glob : X.env.globals = mainGlobals
  blt : X.env.builtins = builtinsNs
  above : X.s₀.heap.objs.size ≤ X.env.locals
  inj : ∀ x y c, X.env.cells.lookup x = some c → X.env.cells.lookup y = some c → x = y
  has : ∀ x, (X.env.kindOf x = some .cell ∨ X.env.kindOf x = some .free) → ∃ c, X.env.cells.lookup x = some c
  cab : ∀ x c, X.fn x = true → X.env.cells.lookup x = some c → X.s₀.heap.objs.size ≤ c
  hd : X.calm = true → X.A.handled = none
  frames : X.A.frames = some X.stack
  stk : X.stack = X.outer ∨ (X.stack = X.env :: X.outer ∧ X.env.frame = some X.env.locals)
  exf : ∀ b ∈ X.ex, b ≠ X.env.locals ∧ ∀ x c, X.env.cells.lookup x = some c → c ≠ b
  bs : ∀ b o, X.base.get? b = some o → X.s₀.heap.get? b = some o ∧ X.H₀ b = none
  bsz : X.base.objs.size ≤ X.s₀.heap.objs.size
  noex : ∀ b o, X.base.get? b = some o → b ∉ X.ex
  exfs : ∀ b ∈ X.ex, b ∉ X.fs
  funs : X.s₀.heap.FunFrames X.base X.outer
  frf : ∀ b ∈ X.fs, X.H₀ b = none

structure Inv (X : Cx) (pins : List (Addr × Obj)) (σ : List (Option V)) (H : Hp) (s : Shared) : Prop where
  ok : X.Ok
  os : s.os = X.s₀.os
  bare : AllBare s.gens
  base : Un X.fs X.ex X.H₀ H X.s₀.heap s.heap
  loc : ∃ m, s.heap.Ns X.env.locals m ∧ ∀ (i : Nat) (x : Str) (v : V), X.N[i]? = some x → σ[i]? = some (some v) → Vis X.env.scope x → ∃ u, RelV v u ∧ Look X.env s.heap m x u
  cell : ∀ x c, X.env.cells.lookup x = some c → ∃ v, s.heap.IsCell c v
  free : H X.env.locals = none
  freeC : ∀ x c, X.env.cells.lookup x = some c → H c = none
  pin : ∀ p ∈ X.pn ++ pins, s.heap.get? p.1 = some p.2 ∧ H p.1 = none ∧ p.1 ≠ X.env.locals ∧ p.1 ∉ X.fs ∧ ∀ v, p.2.data ≠ .cell v
  hok : HOk X.prog X.w H s.heap
  len : σ.length = X.N.length

section
variable {X : Cx} {pins : List (Addr × Obj)} {σ : List (Option V)} {H H' : Hp} {s : Shared} {h' : Heap}

theorem Cx.Ok.nofr (ok : X.Ok) {b : Addr} {o : Obj} (e : X.base.get? b = some o) : b ∉ X.fs := fun hb => by
  have := (ok.funs.mem hb).1
  rw [e] at this; cases this
theorem Inv.bs (I : Inv X pins σ H s) : ∀ b o, X.base.get? b = some o → s.heap.get? b = some o ∧ H b = none := fun b o e =>
  ⟨I.base.keep b o (I.ok.bs b o e).1 (I.ok.bs b o e).2 (I.ok.nofr e) (I.ok.noex b o e), I.base.free b o (I.ok.bs b o e).1 (I.ok.bs b o e).2 (I.ok.noex b o e)⟩
theorem Inv.bk (I : Inv X pins σ H s) : ∀ b o, X.base.get? b = some o → s.heap.get? b = some o := fun b o e => (I.bs b o e).1
theorem Inv.mod (I : Inv X pins σ H s) : Mod X.K X.mg X.base := I.ok.mod
theorem Inv.kIn (I : Inv X pins σ H s) : X.K.In s.heap := I.ok.mod.kin.keeps I.bk
theorem Inv.fr (I : Inv X pins σ H s) : ∃ m, Fr X.base X.env.locals s.heap m :=
  let ⟨m, hn, _⟩ := I.loc
  ⟨m, hn, I.bk, Nat.le_trans I.ok.bsz I.ok.above⟩
theorem Inv.lt (I : Inv X pins σ H s) : X.env.locals < s.heap.objs.size := let ⟨_, hn, _⟩ := I.loc; hn.lt
theorem Inv.sz (I : Inv X pins σ H s) : X.s₀.heap.objs.size ≤ s.heap.objs.size := Nat.le_trans I.ok.above (Nat.le_of_lt I.lt)
theorem Inv.nofs (I : Inv X pins σ H s) {a : Addr} (h : s.heap.objs.size ≤ a) : a ∉ X.fs := fun hb => by
  obtain ⟨_, o, ho, _⟩ := I.ok.funs.mem hb
  exact absurd (Nat.lt_of_lt_of_le (Heap.lt_size ho) (Nat.le_trans I.sz h)) (Nat.lt_irrefl _)
theorem Inv.cne (I : Inv X pins σ H s) : ∀ x c, X.env.cells.lookup x = some c → c ≠ X.env.locals := fun x c e z => by
  obtain ⟨v, o, ho, hd⟩ := I.cell x c e
  obtain ⟨m, ⟨o', es, ep, ho', hd', _⟩, _⟩ := I.loc
  rw [z, ho'] at ho; cases ho; rw [hd'] at hd; cases hd
theorem Inv.funs (I : Inv X pins σ H s) : s.heap.FunFrames X.base X.outer := by
  have all : ∀ (l : List Env), (∀ b ∈ frs l, b ∈ X.fs) → X.s₀.heap.FunFrames X.base l → s.heap.FunFrames X.base l := by
    intro l
    induction l with
    | nil => intro _ _; trivial
    | cons env r ih =>
      intro hs hl
      obtain ⟨hk, ⟨L, o, hf, hn, ho, hd⟩, hr⟩ := hl
      have hL : L ∈ X.fs := hs L (by unfold frs; rw [List.filterMap_cons, hf]; exact List.mem_cons_self)
      obtain ⟨sl, e⟩ := I.base.slot L o ho (I.ok.frf L hL) hL fun z => I.ok.exfs L z hL
      exact ⟨hk, ⟨L, _, hf, hn, e, hd⟩, ih (fun b hb => hs b (by unfold frs; rw [List.filterMap_cons, hf]; exact List.mem_cons_of_mem _ hb)) hr⟩
  exact all X.outer (fun _ hb => hb) I.ok.funs

theorem Inv.stack (I : Inv X pins σ H s) : s.heap.FunFrames X.base X.stack := by
  rcases I.ok.stk with e | ⟨e, hf⟩
  · rw [e]; exact I.funs
  · rw [e]
    obtain ⟨m, hn, _⟩ := I.loc
    refine .cons (by rw [I.ok.kind]; decide) hf hn ?_ I.funs
    exact Heap.get?_none_of_le (Nat.le_trans I.ok.bsz I.ok.above)
theorem Inv.stkSub (I : Inv X pins σ H s) : ∀ b ∈ frs X.stack, b ∈ X.env.locals :: X.fs := fun b hb => by
  rcases I.ok.stk with e | ⟨e, hf⟩
  · rw [e] at hb; exact List.mem_cons_of_mem _ hb
  · rw [e] at hb
    unfold frs at hb
    rw [List.filterMap_cons, hf] at hb
    exact hb
theorem Inv.stkFree (I : Inv X pins σ H s) : ∀ b ∈ frs X.stack, H b = none := fun b hb => by
  rcases List.mem_cons.mp (I.stkSub b hb) with e | hb
  · rw [e]; exact I.free
  · obtain ⟨_, o, ho, _⟩ := I.ok.funs.mem hb
    exact I.base.free b o ho (I.ok.frf b hb) fun z => I.ok.exfs b z hb

theorem Inv.step {g' : Array GenState} {t' : Nat} {d' : Drawn} {ch : List Addr} (I : Inv X pins σ H s)
    (hch : ∀ b ∈ ch, (b ∈ X.ex ∨ X.s₀.heap.objs.size ≤ b) ∧ b ≠ X.env.locals ∧ (∀ x c, X.env.cells.lookup x = some c → c ≠ b) ∧ ∀ p ∈ X.pn ++ pins, p.1 ≠ b)
    (keep : ∀ b o, b ≠ X.env.locals → b ∉ X.fs → b ∉ ch → s.heap.get? b = some o → H b = none → h'.get? b = some o)
    (slot : ∀ b o, b ≠ X.env.locals → b ∈ X.fs → b ∉ ch → s.heap.get? b = some o → H b = none → ∃ sl, h'.get? b = some { o with slots := sl }) (free : ∀ b o, b ∉ ch → s.heap.get? b = some o → H b = none → H' b = none)
    (there : ∀ b o, b ∉ ch → s.heap.get? b = some o → ∃ o', h'.get? b = some o')
    (tups : ∀ b xs, H b = some (.tup xs) → H' b = some (.tup xs)) (frzs : ∀ b o u, H b = some (.frz o u) → H' b = some (.frz o u)) (tbls : ∀ b ps, H b = some (.tbl ps) → ∃ more, H' b = some (.tbl (ps ++ more)))
    (ns : ∀ m, s.heap.Ns X.env.locals m → h'.Ns X.env.locals m) (hok : HOk X.prog X.w H' h') (hg : AllBare g') :
    Inv X pins σ H' { s with heap := h', gens := g', drawn := d', toks := t' } := by
  have neL : ∀ b o, X.s₀.heap.get? b = some o → b ≠ X.env.locals := fun b o e => Nat.ne_of_lt (Nat.lt_of_lt_of_le (Heap.lt_size e) I.ok.above)
  have neC : ∀ b o, X.s₀.heap.get? b = some o → b ∉ X.ex → b ∉ ch := fun b o e hx hb => by
    rcases (hch b hb).1 with z | z
    · exact hx z
    · exact absurd (Nat.lt_of_lt_of_le (Heap.lt_size e) z) (Nat.lt_irrefl _)
  have cellK : ∀ x c, X.env.cells.lookup x = some c → ∀ v, s.heap.IsCell c v → h'.IsCell c v := fun x c e v ⟨o, ho, hd⟩ => by
    have nch : c ∉ ch := fun z => (hch c z).2.2.1 x c e rfl
    by_cases hc : c ∈ X.fs
    · obtain ⟨sl, q⟩ := slot c o (I.cne x c e) hc nch ho (I.freeC x c e)
      exact ⟨_, q, hd⟩
    · exact ⟨o, keep c o (I.cne x c e) hc nch ho (I.freeC x c e), hd⟩
  refine ⟨I.ok, I.os, hg, ⟨fun b o e n hb hx => ?_, fun b o e n hb hx => ?_, fun b o e n hx => ?_, fun b o e hx => ?_, fun b xs e => tups b xs (I.base.tups b xs e), fun b o xs e => frzs b o xs (I.base.frzs b o xs e), fun b ps e => ?_⟩, ?_, fun x c e => ?_, ?_, fun x c e => ?_, fun p hp => ?_, hok, I.len⟩
  · exact keep b o (neL b o e) hb (neC b o e hx) (I.base.keep b o e n hb hx) (I.base.free b o e n hx)
  · obtain ⟨sl, e1⟩ := I.base.slot b o e n hb hx
    obtain ⟨sl', e2⟩ := slot b _ (neL b o e) hb (neC b o e hx) e1 (I.base.free b o e n hx)
    exact ⟨sl', e2⟩
  · obtain ⟨o', e1⟩ := I.base.there b o e hx
    exact free b o' (neC b o e hx) e1 (I.base.free b o e n hx)
  · obtain ⟨o', e1⟩ := I.base.there b o e hx
    exact there b o' (neC b o e hx) e1
  · obtain ⟨m1, e1⟩ := I.base.tbls b ps e
    obtain ⟨m2, e2⟩ := tbls b _ e1
    exact ⟨m1 ++ m2, by rw [e2, Array.append_assoc]⟩
  · obtain ⟨m, hn, hl⟩ := I.loc
    refine ⟨m, ns m hn, fun i x v e1 e2 e3 => ?_⟩
    obtain ⟨u, r, l⟩ := hl i x v e1 e2 e3
    refine ⟨u, r, ?_⟩
    rcases l with l | ⟨k, c, e, z⟩
    · exact .inl l
    · exact .inr ⟨k, c, e, cellK x c e _ z⟩
  · obtain ⟨v, z⟩ := I.cell x c e
    exact ⟨v, cellK x c e v z⟩
  · obtain ⟨m, ⟨o, _, _, ho, _⟩, _⟩ := I.loc
    exact free _ o (fun z => (hch _ z).2.1 rfl) ho I.free
  · obtain ⟨v, o, ho, hd⟩ := I.cell x c e
    exact free c o (fun z => (hch c z).2.2.1 x c e rfl) ho (I.freeC x c e)
  · obtain ⟨e, n, ne, nf, d⟩ := I.pin p hp
    have nch : p.1 ∉ ch := fun z => (hch p.1 z).2.2.2 p hp rfl
    exact ⟨keep p.1 p.2 ne nf nch e n, free p.1 p.2 nch e n, ne, nf, d⟩
theorem Inv.un {t' : Nat} (I : Inv X pins σ H s) (u : Un X.fs [] H H' s.heap h') (hok : HOk X.prog X.w H' h') : Inv X pins σ H' { s with heap := h', toks := t' } := by
  obtain ⟨m, ⟨o, es, ep, ho, r⟩, _⟩ := id I.loc
  obtain ⟨sl, hL⟩ := u.any ho I.free (by simp)
  exact I.step (g' := s.gens) (d' := s.drawn) (ch := []) (fun _ z => nomatch z) (fun b o _ hb _ e n => u.keep b o e n hb (by simp)) (fun b o _ hb _ e n => u.slot b o e n hb (by simp)) (fun b o _ e n => u.free b o e n (by simp)) (fun b o _ e => u.there b o e (by simp)) u.tups u.frzs u.tbls (fun m' hm => by
    obtain ⟨o', es', ep', ho', r'⟩ := hm
    rw [ho] at ho'; cases ho'
    exact ⟨_, es', ep', hL, r'⟩) hok I.bare
theorem Inv.call {g' : Array GenState} {t' : Nat} {d' : Drawn} {ch : List Addr} (I : Inv X pins σ H s) (u : Un (frs X.stack) ch H H' s.heap h') (hok : HOk X.prog X.w H' h') (hg : AllBare g')
    (hch : ∀ b ∈ ch, (b ∈ X.ex ∨ X.s₀.heap.objs.size ≤ b) ∧ b ≠ X.env.locals ∧ (∀ x c, X.env.cells.lookup x = some c → c ≠ b) ∧ ∀ p ∈ X.pn ++ pins, p.1 ≠ b) :
    Inv X pins σ H' { s with heap := h', gens := g', drawn := d', toks := t' } := by
  obtain ⟨m, ⟨o, es, ep, ho, r⟩, _⟩ := id I.loc
  obtain ⟨sl, hL⟩ := u.any ho I.free fun z => (hch _ z).2.1 rfl
  exact I.step (ch := ch) hch (fun b o hL hb hc e n => u.keep b o e n (fun z => (List.mem_cons.mp (I.stkSub b z)).elim hL hb) hc) (fun b o _ _ hc e n => u.any e n hc) (fun b o hc e n => u.free b o e n hc) (fun b o hc e => u.there b o e hc) u.tups u.frzs u.tbls (fun m' hm => by
    obtain ⟨o', es', ep', ho', r'⟩ := hm
    rw [ho] at ho'; cases ho'
    exact ⟨_, es', ep', hL, r'⟩) hok hg
theorem Inv.turned {t' : Nat} {it : Addr} (I : Inv X pins σ H s) (k : ∀ b o, b ≠ it → s.heap.get? b = some o → h'.get? b = some o) (hn : H it = none) (hL : it ≠ X.env.locals)
    (h1 : it ∈ X.ex ∨ X.s₀.heap.objs.size ≤ it) (h2 : ∀ x c, X.env.cells.lookup x = some c → c ≠ it) (h3 : ∀ p ∈ X.pn ++ pins, p.1 ≠ it) : Inv X pins σ H { s with heap := h', toks := t' } := by
  have nit : ∀ b u, H b = some u → b ≠ it := fun b u e z => by rw [z, hn] at e; cases e
  refine I.step (g' := s.gens) (d' := s.drawn) (ch := [it]) (fun b hb => ?_) (fun b o _ _ hc e _ => k b o (fun z => hc (by simp [z])) e) (fun b o _ _ hc e _ => ⟨o.slots, k b o (fun z => hc (by simp [z])) e⟩) (fun _ _ _ _ n => n)
    (fun b o hc e => ⟨o, k b o (fun z => hc (by simp [z])) e⟩) (fun _ _ e => e) (fun _ _ _ e => e) (fun b ps e => ⟨#[], by rw [e]; simp⟩) (fun m hm => ?_) (fun b u e => ?_) I.bare
  · have e : b = it := by simpa using hb
    subst e
    exact ⟨h1, hL, h2, h3⟩
  · obtain ⟨o, es, ep, ho, r⟩ := hm
    exact ⟨o, es, ep, k _ o (Ne.symm hL) ho, r⟩
  · refine (I.hok b u e).stay (fun c v hc q => k c v ?_ q) (fun _ q => q) fun _ _ q => q
    rcases hc with z | z
    · rw [z]; exact nit b u e
    · exact nit c _ z
theorem Inv.tok (I : Inv X pins σ H s) (t : Nat) : Inv X pins σ H { s with toks := t } := I.un (h' := s.heap) (t' := t) Un.refl I.hok
theorem Inv.kept {t' : Nat} (I : Inv X pins σ H s) (k : ∀ b u, s.heap.get? b = some u → h'.get? b = some u) : Inv X pins σ H { s with heap := h', toks := t' } := I.un (Un.kept k) (I.hok.kept k)
theorem Inv.laid {a : Addr} {o : HO} {t' : Nat} (I : Inv X pins σ H s) (k : ∀ b u, s.heap.get? b = some u → h'.get? b = some u) (hp : s.heap.objs.size ≤ a) (new : ObjOk X.prog X.w (upd H a o) h' a o) :
    Inv X pins σ (upd H a o) { s with heap := h', toks := t' } := I.un (Un.laid k hp (I.hok.fresh hp)) (I.hok.laid k hp new)
theorem Inv.write {x e : Addr} {o : HO} {t' : Nat} (I : Inv X pins σ H s) (mu : Mut (H x)) (he : e = x ∨ H e = some (.own x)) (k : ∀ b u, b ≠ e → s.heap.get? b = some u → h'.get? b = some u) (heo : ∃ u, h'.get? e = some u)
    (new : ObjOk X.prog X.w (upd H x o) h' x o) : Inv X pins σ (upd H x o) { s with heap := h', toks := t' } := I.un (Un.write mu he k heo) (I.hok.write mu he k heo new)
theorem Inv.pins_of {pins' : List (Addr × Obj)} (I : Inv X pins σ H s) (h : ∀ p ∈ pins', s.heap.get? p.1 = some p.2 ∧ H p.1 = none ∧ p.1 ≠ X.env.locals ∧ p.1 ∉ X.fs ∧ ∀ v, p.2.data ≠ .cell v) : Inv X pins' σ H s :=
  ⟨I.ok, I.os, I.bare, I.base, I.loc, I.cell, I.free, I.freeC, fun p hp => (List.mem_append.mp hp).elim (fun z => I.pin p (List.mem_append_left _ z)) (h p), I.hok, I.len⟩

theorem nodup_ix {N : List Str} (hN : N.Nodup) {i j : Nat} {x : Str} (a : N[i]? = some x) (b : N[j]? = some x) : i = j := by
  obtain ⟨h1, e1⟩ := List.getElem?_eq_some_iff.mp a
  obtain ⟨h2, e2⟩ := List.getElem?_eq_some_iff.mp b
  exact (List.getElem_inj hN).mp (e1.trans e2.symm)

theorem store_ok2 {M : Model} {A : Around} {E : Value → Shared → Prop} {i : Nat} {x : Str} {v : V} {u : Value} {Q : Unit → Shared → Prop} (I : Inv X pins σ H s) (hN : X.N.Nodup) (hi : X.N[i]? = some x) (hx : Loc X.env.scope x) (r : RelV v u)
    (h : ∀ s', Inv X pins (σ.set i (some v)) H s' → (∃ a, Heap.SameBut a s.heap s'.heap ∧ (a = X.env.locals ∨ X.env.cells.lookup x = some a)) → Q () s') (hf : X.fn x = true ∨ X.env.scope.names.lookup x = some .local := by first | exact .inl rfl | exact .inr rfl | assumption) : wpAny M A (storeName X.env x u) Q E s := by
  obtain ⟨m, hn, hl⟩ := id I.loc
  have hcls : (X.env.scope.kind == .class || (X.env.scope.kind == .module && X.env.locals != X.env.globals)) = false := by rw [I.ok.kind]; rfl
  have hiσ : i < σ.length := by rw [I.len]; exact (List.getElem?_eq_some_iff.mp hi).1
  have cne := I.cne
  have tracked : ∀ {a : Addr} {h' : Heap}, (∃ o, s.heap.get? a = some o ∧ H a = none) → Heap.SameBut a s.heap h' → HOk X.prog X.w H h' := fun {a h'} ha hs b ob e => by
    obtain ⟨_, _, hfree⟩ := ha
    refine (I.hok b ob e).stay (fun c w' hc q => (hs.2 c ?_).trans q) (fun _ q => q) fun _ _ q => q
    rintro rfl
    rcases hc with rfl | hc
    · rw [hfree] at e; cases e
    · rw [hfree] at hc; cases hc
  rcases hx with hk | hk
  · refine wpAny_storeName_local hk hn (fun h' hn' hs => ?_) hcls
    obtain ⟨oL, _, _, hoL, _⟩ := id hn
    refine h _ ⟨I.ok, I.os, I.bare, ⟨fun b o e n hb hx => ?_, fun b o e n hb hx => ?_, I.base.free, fun b o e hx => ?_, I.base.tups, I.base.frzs, I.base.tbls⟩, ⟨_, hn', fun j y v' e1 e2 e3 => ?_⟩, fun y c e => ?_, I.free, I.freeC, fun p hp => ?_, tracked ⟨oL, hoL, I.free⟩ hs, by simpa using I.len⟩ ⟨_, hs, .inl rfl⟩
    · exact (hs.2 b (Nat.ne_of_lt (Nat.lt_of_lt_of_le (Heap.lt_size e) I.ok.above))).trans (I.base.keep b o e n hb hx)
    · obtain ⟨sl, e1⟩ := I.base.slot b o e n hb hx
      exact ⟨sl, (hs.2 b (Nat.ne_of_lt (Nat.lt_of_lt_of_le (Heap.lt_size e) I.ok.above))).trans e1⟩
    · obtain ⟨o', e1⟩ := I.base.there b o e hx
      exact ⟨o', (hs.2 b (Nat.ne_of_lt (Nat.lt_of_lt_of_le (Heap.lt_size e) I.ok.above))).trans e1⟩
    · by_cases hj : j = i
      · subst hj
        rw [hi] at e1; cases e1
        rw [List.getElem?_set_self hiσ] at e2
        cases e2
        exact ⟨u, r, .inl ⟨hk, by simp⟩⟩
      · rw [List.getElem?_set_ne (Ne.symm hj)] at e2
        obtain ⟨u', r', q⟩ := hl j y v' e1 e2 e3
        refine ⟨u', r', ?_⟩
        rcases q with ⟨k, e⟩ | ⟨k, c, e, z⟩
        · refine .inl ⟨k, ?_⟩
          have : y ≠ x := fun e => hj (nodup_ix hN e1 (e ▸ hi))
          simp [this, e]
        · exact .inr ⟨k, c, e, z.sameBut hs (cne y c e)⟩
    · obtain ⟨w', z⟩ := I.cell y c e
      exact ⟨w', z.sameBut hs (cne y c e)⟩
    · obtain ⟨e, n, ne, nf, d⟩ := I.pin p hp
      exact ⟨(hs.2 p.1 ne).trans e, n, ne, nf, d⟩
  · have hfn : X.fn x = true := by
      rcases hf with z | z
      · exact z
      · rw [z] at hk; cases hk
    obtain ⟨c, hc⟩ := I.ok.has x (.inl hk)
    obtain ⟨w', z⟩ := I.cell x c hc
    refine wpAny_storeName_cell I.ok.kind hk hc z (fun h' hc' hs => ?_)
    obtain ⟨oc, hoc, hocd⟩ := id z
    refine h { s with heap := h' } ⟨I.ok, I.os, I.bare, ⟨fun b o e n hb hx => ?_, fun b o e n hb hx => ?_, I.base.free, fun b o e hx => ?_, I.base.tups, I.base.frzs, I.base.tbls⟩, ⟨m, hn.sameBut hs (Ne.symm (cne x c hc)), fun j y v' e1 e2 e3 => ?_⟩, fun y c' e => ?_, I.free, I.freeC, fun p hp => ?_, tracked ⟨oc, hoc, I.freeC x c hc⟩ hs, by simpa using I.len⟩ ⟨c, hs, .inr hc⟩
    · exact (hs.2 b (Nat.ne_of_lt (Nat.lt_of_lt_of_le (Heap.lt_size e) (I.ok.cab x c hfn hc)))).trans (I.base.keep b o e n hb hx)
    · obtain ⟨sl, e1⟩ := I.base.slot b o e n hb hx
      exact ⟨sl, (hs.2 b (Nat.ne_of_lt (Nat.lt_of_lt_of_le (Heap.lt_size e) (I.ok.cab x c hfn hc)))).trans e1⟩
    · obtain ⟨o', e1⟩ := I.base.there b o e hx
      exact ⟨o', (hs.2 b (Nat.ne_of_lt (Nat.lt_of_lt_of_le (Heap.lt_size e) (I.ok.cab x c hfn hc)))).trans e1⟩
    · by_cases hj : j = i
      · subst hj
        rw [hi] at e1; cases e1
        rw [List.getElem?_set_self hiσ] at e2
        cases e2
        exact ⟨u, r, .inr ⟨.inl hk, c, hc, hc'⟩⟩
      · rw [List.getElem?_set_ne (Ne.symm hj)] at e2
        obtain ⟨u', r', q⟩ := hl j y v' e1 e2 e3
        refine ⟨u', r', ?_⟩
        rcases q with q | ⟨k, c', e, z'⟩
        · exact .inl q
        · refine .inr ⟨k, c', e, z'.sameBut hs ?_⟩
          rintro rfl
          exact hj (nodup_ix hN e1 (I.ok.inj _ _ _ e hc ▸ hi))
    · by_cases hcc : c' = c
      · subst hcc; exact ⟨_, hc'⟩
      · obtain ⟨w2, z2⟩ := I.cell y c' e
        exact ⟨w2, z2.sameBut hs hcc⟩
    · obtain ⟨e, n, ne, nf, d⟩ := I.pin p hp
      refine ⟨(hs.2 p.1 ?_).trans e, n, ne, nf, d⟩
      intro q
      rw [q, hoc] at e
      have q' : oc = p.2 := Option.some.inj e
      exact d w' (by rw [← q']; exact hocd)
theorem store_ok {M : Model} {A : Around} {E : Value → Shared → Prop} {i : Nat} {x : Str} {v : V} {u : Value} {Q : Unit → Shared → Prop} (I : Inv X pins σ H s) (hN : X.N.Nodup) (hi : X.N[i]? = some x) (hx : Loc X.env.scope x) (r : RelV v u)
    (h : ∀ s', Inv X pins (σ.set i (some v)) H s' → Q () s') (hf : X.fn x = true ∨ X.env.scope.names.lookup x = some .local := by first | exact .inl rfl | exact .inr rfl | assumption) : wpAny M A (storeName X.env x u) Q E s :=
  store_ok2 I hN hi hx r (fun s' I' _ => h s' I') hf
theorem Inv.call' {s' : Shared} {ch : List Addr} (I : Inv X pins σ H s) (ho : s'.os = s.os) (u : Un (frs X.stack) ch H H' s.heap s'.heap) (hok : HOk X.prog X.w H' s'.heap) (hg : AllBare s'.gens)
    (hch : ∀ b ∈ ch, (b ∈ X.ex ∨ X.s₀.heap.objs.size ≤ b) ∧ b ≠ X.env.locals ∧ (∀ x c, X.env.cells.lookup x = some c → c ≠ b) ∧ ∀ p ∈ X.pn ++ pins, p.1 ≠ b) : Inv X pins σ H' s' := by
  obtain ⟨h', g', d', t', o'⟩ := s'
  have e : o' = s.os := ho
  subst e
  exact I.call (g' := g') (t' := t') (d' := d') u hok hg hch
end

noncomputable abbrev XK := Value → Option Addr → Hp → Prop
noncomputable abbrev St := List (Option V)
noncomputable abbrev VK := V → Hp → Prop
noncomputable abbrev TE := St → Hp → VK → Prop
noncomputable abbrev TT := St → Hp → (Bool → Hp → Prop) → Prop
noncomputable abbrev TA := St → Hp → (List V → Hp → Prop) → Prop
structure Ends where
  nx : St → Hp → Prop
  rt : VK
  bk : St → Hp → Prop := fun _ _ => False
  ct : St → Hp → Prop := fun _ _ => False
noncomputable abbrev TS := Ends → St → Hp → Prop

noncomputable def EP (X : Cx) (pins : List (Addr × Obj)) (σ : St) (Q : VK) (u : Value) (s' : Shared) : Prop := ∃ v H', Inv X pins σ H' s' ∧ RelV v u ∧ Q v H'
noncomputable def TP (X : Cx) (pins : List (Addr × Obj)) (σ : St) (Q : Bool → Hp → Prop) (b : Bool) (s' : Shared) : Prop := ∃ H', Inv X pins σ H' s' ∧ Q b H'
noncomputable def AP (X : Cx) (pins : List (Addr × Obj)) (σ : St) (Q : List V → Hp → Prop) (us : List Value) (s' : Shared) : Prop := ∃ vs H', Inv X pins σ H' s' ∧ Vals vs us ∧ Q vs H'
noncomputable def SP (X : Cx) (pins : List (Addr × Obj)) (D : Ends) (f : Flow) (s' : Shared) : Prop :=
  match f with
  | .next => ∃ σ' H', Inv X pins σ' H' s' ∧ D.nx σ' H'
  | .brk => ∃ σ' H', Inv X pins σ' H' s' ∧ D.bk σ' H'
  | .cont => ∃ σ' H', Inv X pins σ' H' s' ∧ D.ct σ' H'
  | .ret u => ∃ v σ' H', Inv X pins σ' H' s' ∧ RelV v u ∧ D.rt v H'

noncomputable def PE (X : Cx) (e : Expr) (t : TE) : Prop :=
  ∀ (pins : List (Addr × Obj)) (s : Shared) (σ : St) (H : Hp) (Q : VK), Inv X pins σ H s → t σ H Q → wpAny (model X.prog X.w) X.A (eval e X.env) (EP X pins σ Q) X.xe s
noncomputable def PT (X : Cx) (e : Expr) (t : TT) : Prop :=
  ∀ (pins : List (Addr × Obj)) (s : Shared) (σ : St) (H : Hp) (Q : Bool → Hp → Prop), Inv X pins σ H s → t σ H Q → wpAny (model X.prog X.w) X.A (isTrue e X.env (eval e X.env)) (TP X pins σ Q) X.xe s
noncomputable def PW (X : Cx) (e : Expr) (t : TT) : Prop :=
  ∀ (whole : Sem Value) (pins : List (Addr × Obj)) (s : Shared) (σ : St) (H : Hp) (Q : Bool → Hp → Prop), Inv X pins σ H s → t σ H Q → wpAny (model X.prog X.w) X.A (isTrue e X.env whole) (TP X pins σ Q) X.xe s
theorem PW.pt {X : Cx} {e : Expr} {t : TT} (h : PW X e t) : PT X e t := h _
noncomputable def PA (X : Cx) (es : List Expr) (t : TA) : Prop :=
  ∀ (pos : Pos) (pins : List (Addr × Obj)) (s : Shared) (σ : St) (H : Hp) (Q : List V → Hp → Prop), Inv X pins σ H s → t σ H Q → wpAny (model X.prog X.w) X.A (spliced (backTo pos (starEach es X.env))) (AP X pins σ Q) X.xe s
noncomputable def PS (X : Cx) (st : Stmt) (t : TS) : Prop :=
  ∀ (pins : List (Addr × Obj)) (s : Shared) (σ : St) (H : Hp) (D : Ends), Inv X pins σ H s → t D σ H → wpAny (model X.prog X.w) X.A (exec st X.env) (SP X pins D) X.xe s
noncomputable def PSs (X : Cx) (st : List Stmt) (t : TS) : Prop :=
  ∀ (pins : List (Addr × Obj)) (s : Shared) (σ : St) (H : Hp) (D : Ends), Inv X pins σ H s → t D σ H → wpAny (model X.prog X.w) X.A (execs st X.env) (SP X pins D) X.xe s
theorem thn {α : Type} {t : Sem α} {Q Q' : α → Shared → Prop} {M : Model} {A : Around} {E : Value → Shared → Prop} {s : Shared} (h : wpAny M A t Q E s) (hQ : ∀ a s, Q a s → Q' a s) : wpAny M A t Q' E s := wpAny_mono h hQ fun _ _ x => x
end L2

namespace L2
open PySem PySem.Spec PyProof.Rows
section
variable {X : Cx}

noncomputable def tVar (i : Nat) : TE := fun σ H Q => ∃ v, σ[i]? = some (some v) ∧ Q v H
noncomputable def tC (v : V) : TE := fun _ H Q => Q v H
theorem pe_var {i : Nat} {x : Str} {pos : Pos} (hN : X.N[i]? = some x) (hv : Vis X.env.scope x) (hd : (x == ("__debug__" : Str)) = false := by decide) (hcd : (x == ("__classdict__" : Str)) = false := by decide) : PE X (.Name x pos) (tVar i) := by
  intro pins s σ H Q I h
  obtain ⟨v, e, h⟩ := h
  obtain ⟨m, hn, hl⟩ := I.loc
  obtain ⟨u, r, l⟩ := hl i x v hN e hv
  have fin : EP X pins σ Q u s := ⟨v, H, I, r, h⟩
  rcases l with ⟨hk, hm⟩ | ⟨hk, c, hc, hcell⟩
  · exact wpAny_Name (wpAny_loadName_local I.ok.kind hk hn hm fin) hd
  · rcases hk with hk | hk
    · exact wpAny_Name (wpAny_loadName_cell I.ok.kind hk hc hcell fin) hd
    · exact wpAny_Name (wpAny_loadName_free I.ok.kind hk hc hcell fin hcd) hd
theorem pe_int {i j pos} : PE X (.Constant (.int i) j pos) (tC (.int i)) := fun _ _ _ H _ I h => wpAny_Constant_int ⟨.int i, H, I.tok _, ⟨_, rfl⟩, h⟩
theorem pe_bl {b j pos} : PE X (.Constant (.bool b) j pos) (tC (.bl b)) := fun _ _ _ H _ I h => Constant_bool ⟨.bl b, H, I, rfl, h⟩
theorem pe_str {x j pos} : PE X (.Constant (.str x) j pos) (tC (.str x)) := fun _ _ _ H _ I h => Calls.Constant_str ⟨.str x, H, I.tok _, ⟨_, rfl⟩, h⟩

noncomputable def Gl (X : Cx) (x : Str) : Prop := X.env.kindOf x = some .globalImplicit
theorem ld_glob {E : Value → Shared → Prop} {pins : List (Addr × Obj)} {s : Shared} {σ : St} {H : Hp} {x : Str} {u : Value} {pos : Pos} {Q : Value → Shared → Prop} (I : Inv X pins σ H s) (hg : Gl X x) (hm : X.mg x = some u) (h : Q u s)
    (hd : (x == ("__debug__" : Str)) = false := by decide) : wpAny (model X.prog X.w) X.A (eval (.Name x pos) X.env) Q E s :=
  Calls.Name_function_global I.ok.kind hg (Calls.loadGlobal_global (by rw [I.ok.glob]; exact I.mod.glob.keeps I.bk) hm h) hd
theorem ld_blt {E : Value → Shared → Prop} {pins : List (Addr × Obj)} {s : Shared} {σ : St} {H : Hp} {x : Str} {u : Value} {pos : Pos} {Q : Value → Shared → Prop} (I : Inv X pins σ H s) (hg : Gl X x) (hm : X.mg x = none) (hv : bootBuiltins x = some u) (h : Q u s)
    (hn : x ≠ "__name__" := by decide) (hd : (x == ("__debug__" : Str)) = false := by decide) : wpAny (model X.prog X.w) X.A (eval (.Name x pos) X.env) Q E s := by
  obtain ⟨mb, h1, h2⟩ := I.mod.blt
  exact Calls.Name_function_global I.ok.kind hg (Calls.loadGlobal_builtin (by rw [I.ok.glob]; exact I.mod.glob.keeps I.bk) hm (by rw [I.ok.blt]; exact h1.keeps I.bk) ((h2 x hn).trans hv) h) hd
theorem pe_glob {x : Str} {v : V} {u : Value} {pos : Pos} (hg : Gl X x) (hm : X.mg x = some u) (r : RelV v u) (hd : (x == ("__debug__" : Str)) = false := by decide) : PE X (.Name x pos) (tC v) :=
  fun _ _ _ H _ I h => ld_glob I hg hm ⟨v, H, I, r, h⟩ hd
theorem pe_bltn {x : Str} {v : V} {u : Value} {pos : Pos} (hg : Gl X x) (hm : X.mg x = none) (hv : bootBuiltins x = some u) (r : RelV v u) (hn : x ≠ "__name__" := by decide) (hd : (x == ("__debug__" : Str)) = false := by decide) : PE X (.Name x pos) (tC v) :=
  fun _ _ _ H _ I h => ld_blt I hg hm hv ⟨v, H, I, r, h⟩ hn hd

variable {a b : Expr} {ta tb : TE} {pos : Pos}

noncomputable def PC (X : Cx) (op : CmpOp) (a b : Expr) (t : TE) : Prop :=
  ∀ (pins : List (Addr × Obj)) (s : Shared) (σ : St) (H : Hp) (Q : VK), Inv X pins σ H s → t σ H Q →
    wpAny (model X.prog X.w) X.A (eval a X.env) (fun v s₁ => wpAny (model X.prog X.w) X.A (eval b X.env) (fun u s₂ => wpAny (model X.prog X.w) X.A (compareOp op v u) (EP X pins σ Q) X.xe s₂) X.xe s₁) X.xe s
theorem nobehind (b : Expr) {op : CmpOp} (h : op ≠ .In) (h2 : op ≠ .NotIn) : behindInMarks op b = false := by
  have e1 : (op == CmpOp.In) = false := by cases op <;> first | rfl | exact absurd rfl h
  have e2 : (op == CmpOp.NotIn) = false := by cases op <;> first | rfl | exact absurd rfl h2
  cases b <;> simp [behindInMarks, e1, e2]
noncomputable def tB (t : TE) : TT := fun σ H Q => t σ H fun x H1 => ∃ c, x = .bl c ∧ Q c H1
theorem pt_cmp {op : CmpOp} {t : TE} (h : PC X op a b t) (h1 : behindInMarks op b = false := by first | exact nobehind _ (by decide) (by decide) | rfl) : PT X (.Compare a [op] [b] pos) (tB t) := by
  intro pins s σ H Q I hw
  refine wpAny_isTrue_Compare1 (thn (h pins s σ H _ I hw) fun v s1 h1 => thn h1 fun u s2 h2 => thn h2 ?_) h1
  rintro c s3 ⟨x, H1, I1, r1, q1⟩
  obtain ⟨d, rfl, q⟩ := q1
  cases r1
  exact wpAny_truthy_bool ⟨H1, I1, q⟩
theorem pt_val {e : Expr} {t : TE} (h : PE X e t) (he : ∀ whole, isTrue e X.env whole = (do let v ← whole; standAt e.pos; holding [v] (truthy v)) := by intro _; rfl) : PT X e (tB t) := by
  intro pins s σ H Q I hw
  refine isTrue_plain (thn (h pins s σ H _ I hw) ?_) (he _)
  rintro v s1 ⟨x, H1, I1, r1, q1⟩
  obtain ⟨d, rfl, q⟩ := q1
  cases r1
  exact wpAny_truthy_bool ⟨H1, I1, q⟩

variable {tA tB' : TT} {rest : List Expr}
noncomputable def tAnd (t u : TT) : TT := fun σ H Q => t σ H fun c H1 => if c = true then u σ H1 Q else Q false H1
noncomputable def tOr (t u : TT) : TT := fun σ H Q => t σ H fun c H1 => if c = true then Q true H1 else u σ H1 Q
noncomputable def tNot (t : TT) : TT := fun σ H Q => t σ H fun c H1 => Q (!c) H1
theorem pw_and1 (ha : PT X a tA) : PW X (.BoolOp .And [a] pos) tA := by
  intro wh pins s σ H Q I h
  refine isTrue_and (thn (ha pins s σ H Q I h) fun c s1 e => ?_)
  cases c with
  | true => exact isTrue_and_nil e
  | false => exact e
theorem pw_or1 (ha : PT X a tA) : PW X (.BoolOp .Or [a] pos) tA := by
  intro wh pins s σ H Q I h
  refine isTrue_or (thn (ha pins s σ H Q I h) fun c s1 e => ?_)
  cases c with
  | false => exact isTrue_or_nil e
  | true => exact e
theorem pw_and (ha : PT X a tA) (hb : PW X (.BoolOp .And (b :: rest) pos) tB') : PW X (.BoolOp .And (a :: b :: rest) pos) (tAnd tA tB') := by
  intro wh pins s σ H Q I h
  refine isTrue_and (thn (ha pins s σ H _ I h) ?_)
  rintro c s1 ⟨H1, I1, q1⟩
  cases c with
  | true => exact hb wh pins s1 σ H1 Q I1 q1
  | false => exact ⟨H1, I1, q1⟩
theorem pw_or (ha : PT X a tA) (hb : PW X (.BoolOp .Or (b :: rest) pos) tB') : PW X (.BoolOp .Or (a :: b :: rest) pos) (tOr tA tB') := by
  intro wh pins s σ H Q I h
  refine isTrue_or (thn (ha pins s σ H _ I h) ?_)
  rintro c s1 ⟨H1, I1, q1⟩
  cases c with
  | true => exact ⟨H1, I1, q1⟩
  | false => exact hb wh pins s1 σ H1 Q I1 q1
theorem pt_not (ha : PT X a tA) : PT X (.UnaryOp .Not a pos) (tNot tA) := by
  intro pins s σ H Q I h
  exact isTrue_not (ha pins s σ H (fun c H1 => Q (!c) H1) I h)
noncomputable def tAndV (ta tb : TE) : TE := fun σ H Q => ta σ H fun x H1 => ∃ c, x = .bl c ∧ if c = true then tb σ H1 Q else Q (.bl false) H1
theorem pe_one {op} {t : TE} (h : PE X a t) : PE X (.BoolOp op [a] pos) t := fun pins s σ H Q I hw => BoolOp_one (h pins s σ H Q I hw)
theorem pe_and (ha : PE X a ta) (hb : PE X (.BoolOp .And (b :: rest) pos) tb) : PE X (.BoolOp .And (a :: b :: rest) pos) (tAndV ta tb) := by
  intro pins s σ H Q I h
  refine BoolOp_and (thn (ha pins s σ H _ I h) ?_)
  rintro v s1 ⟨x, H1, I1, r1, q1⟩
  obtain ⟨c, rfl, q1⟩ := q1
  cases r1
  refine wpAny_truthy_bool ?_
  cases c with
  | true => exact hb pins s1 σ H1 Q I1 q1
  | false => exact ⟨.bl false, H1, I1, rfl, q1⟩
noncomputable def tIf (t : TT) (ta tb : TE) : TE := fun σ H Q => t σ H fun c H1 => if c = true then ta σ H1 Q else tb σ H1 Q
theorem pe_ifExp {c : Expr} (hc : PT X c tA) (ha : PE X a ta) (hb : PE X b tb) : PE X (.IfExp c a b pos) (tIf tA ta tb) := by
  intro pins s σ H Q I h
  refine wpAny_IfExp (thn (hc pins s σ H _ I h) ?_)
  rintro d s1 ⟨H1, I1, q1⟩
  cases d with
  | true => exact ha pins s1 σ H1 Q I1 q1
  | false => exact hb pins s1 σ H1 Q I1 q1
end
end L2

namespace L2
open PySem PySem.Spec PyProof.Rows

noncomputable def SqL (K : PySem.W.Frag) (H : Hp) (a : Addr) (xs : List V) : Prop :=
  Rd H a (.lst xs) ∨
    ∃ (o : Obj) (its : Array Value) (n : Nat), K.lookup a = some o ∧ o.cls = .type "list" ∧ o.dict = none ∧ o.data = .seq its n ∧ its.size ≤ sizeLine ∧ Vals xs its.toList
noncomputable def SqT (K : PySem.W.Frag) (H : Hp) (a : Addr) (xs : List V) : Prop :=
  Rd H a (.tup xs) ∨
    ∃ (o : Obj) (its : Array Value) (n : Nat), K.lookup a = some o ∧ o.cls = .type "tuple" ∧ o.data = .seq its n ∧ its.size ≤ sizeLine ∧ Vals xs its.toList
noncomputable def absV : Value → Option V
  | .none => some .non
  | .bool b => some (.bl b)
  | .int i _ => some (.int i)
  | .str x _ => some (.str x)
  | .bytes b _ => some (.byt b)
  | .float b _ => some (.flt b)
  | .ref a => some (.ref a)
  | .type n => some (.ty n)
  | _ => none
theorem RelV.abs {x : V} {u : Value} (r : RelV x u) : absV u = some x := by
  cases x with
  | non => cases r; rfl
  | bl _ => cases r; rfl
  | int _ => obtain ⟨t, rfl⟩ := r; rfl
  | str _ => obtain ⟨t, rfl⟩ := r; rfl
  | byt _ => obtain ⟨t, rfl⟩ := r; rfl
  | flt _ => obtain ⟨t, rfl⟩ := r; rfl
  | ref _ => cases r; rfl
  | ty _ => cases r; rfl
theorem RelV.inj {x y : V} {u : Value} (r : RelV x u) (q : RelV y u) : x = y := Option.some.inj (r.abs.symm.trans q.abs)
theorem Vals.inj : ∀ {xs ys : List V} {us : List Value}, Vals xs us → Vals ys us → xs = ys
  | _, _, _, .nil, .nil => rfl
  | _, _, _, .cons r t, .cons r' t' => by rw [r.inj r', Vals.inj t t']
section
variable {X : Cx} {pins : List (Addr × Obj)} {σ : St} {H : Hp} {s : Shared} {a : Addr} {xs ys : List V}
theorem SqL.of {K : PySem.W.Frag} (h : H a = some (.lst xs)) : SqL K H a xs := .inl (.inl h)
theorem SqT.of {K : PySem.W.Frag} (h : H a = some (.tup xs)) : SqT K H a xs := .inl (.inl h)
theorem Inv.list (I : Inv X pins σ H s) (h : SqL X.K H a xs) : ∃ its : List Value, Vals xs its ∧ PlainL s.heap a its.toArray ∧ xs.length ≤ sizeLine := by
  rcases h with h | ⟨o, its, n, hk, hc, hd, hs, hz, r⟩
  · obtain ⟨z, its, n, r, e⟩ := h.ok I.hok
    exact ⟨its, r, ⟨_, n, e, rfl, rfl, rfl⟩, z⟩
  · refine ⟨its.toList, r, ⟨o, n, I.kIn a o hk, hc, hd, by simpa using hs⟩, ?_⟩
    have e := r.length
    simp only [Array.length_toList] at e
    omega
theorem Inv.tuple (I : Inv X pins σ H s) (h : SqT X.K H a xs) : ∃ its : List Value, Vals xs its ∧ IsTup s.heap a its.toArray ∧ xs.length ≤ sizeLine := by
  rcases h with h | ⟨o, its, n, hk, hc, hs, hz, r⟩
  · obtain ⟨z, its, r, p⟩ := h.ok I.hok
    exact ⟨its, r, p, z⟩
  · refine ⟨its.toList, r, ⟨o, I.kIn a o hk, hc, n, by simpa using hs⟩, ?_⟩
    have e := r.length
    simp only [Array.length_toList] at e
    omega
theorem Inv.list_inj (I : Inv X pins σ H s) (h : SqL X.K H a xs) (h' : SqL X.K H a ys) : xs = ys := by
  obtain ⟨its, r, ⟨o, n, e, _, _, d⟩, _⟩ := I.list h
  obtain ⟨its', r', ⟨o', n', e', _, _, d'⟩, _⟩ := I.list h'
  rw [e] at e'; cases e'
  rw [d] at d'
  injection d' with d1 _
  have : its = its' := by simpa using congrArg Array.toList d1
  subst this
  exact r.inj r'
theorem Inv.tuple_inj (I : Inv X pins σ H s) (h : SqT X.K H a xs) (h' : SqT X.K H a ys) : xs = ys := by
  obtain ⟨its, r, ⟨o, e, _, n, d⟩, _⟩ := I.tuple h
  obtain ⟨its', r', ⟨o', e', _, n', d'⟩, _⟩ := I.tuple h'
  rw [e] at e'; cases e'
  rw [d] at d'
  injection d' with d1 _
  have : its = its' := by simpa using congrArg Array.toList d1
  subst this
  exact r.inj r'
end

noncomputable abbrev Cx.wish (X : Cx) (E : Value → Shared → Prop) : Cx := { X with xe := E }
noncomputable abbrev Cx.nox (X : Cx) : Cx := X.wish fun _ _ => False
theorem Cx.Ok.wish {X : Cx} (ok : X.Ok) (E : Value → Shared → Prop) : (X.wish E).Ok :=
  ⟨ok.mod, ok.kind, ok.glob, ok.blt, ok.above, ok.inj, ok.has, ok.cab, ok.hd, ok.frames, ok.stk, ok.exf, ok.bs, ok.bsz, ok.noex, ok.exfs, ok.funs, ok.frf⟩
theorem Cx.Ok.unwish {X : Cx} {E : Value → Shared → Prop} (ok : (X.wish E).Ok) : X.Ok :=
  ⟨ok.mod, ok.kind, ok.glob, ok.blt, ok.above, ok.inj, ok.has, ok.cab, ok.hd, ok.frames, ok.stk, ok.exf, ok.bs, ok.bsz, ok.noex, ok.exfs, ok.funs, ok.frf⟩
section
variable {X : Cx} {pins : List (Addr × Obj)} {σ : St} {H : Hp} {s : Shared} {E : Value → Shared → Prop}
theorem Inv.wish (I : Inv X pins σ H s) (E : Value → Shared → Prop) : Inv (X.wish E) pins σ H s := ⟨I.ok.wish E, I.os, I.bare, I.base, I.loc, I.cell, I.free, I.freeC, I.pin, I.hok, I.len⟩
theorem Inv.unwish (I : Inv (X.wish E) pins σ H s) : Inv X pins σ H s := ⟨I.ok.unwish, I.os, I.bare, I.base, I.loc, I.cell, I.free, I.freeC, I.pin, I.hok, I.len⟩
theorem SP.unwish {D : Ends} {f : Flow} {s' : Shared} (h : SP (X.wish E) pins D f s') : SP X pins D f s' := by
  cases f with
  | next => obtain ⟨σ', H', I, q⟩ := h; exact ⟨σ', H', I.unwish, q⟩
  | brk => obtain ⟨σ', H', I, q⟩ := h; exact ⟨σ', H', I.unwish, q⟩
  | cont => obtain ⟨σ', H', I, q⟩ := h; exact ⟨σ', H', I.unwish, q⟩
  | ret u => obtain ⟨v, σ', H', I, r, q⟩ := h; exact ⟨v, σ', H', I.unwish, r, q⟩
theorem PSs.nox {st : List Stmt} {t : TS} (h : PSs X.nox st t) : PSs X st t := fun pins s σ H D I hw =>
  wpAny_mono (h pins s σ H D (I.wish _) hw) (fun _ _ q => q.unwish) fun _ _ z => False.elim z
end

section
variable {X : Cx} {st : Stmt} {rest : List Stmt} {t u : TS} {e : Expr} {te : TE} {pos : Pos}
noncomputable def tNext : TS := fun D σ H => D.nx σ H
noncomputable def tSeq (t u : TS) : TS := fun D σ H => t { D with nx := u D } σ H
theorem pss_nil : PSs X [] tNext := fun _ _ σ H _ I h => wpAny_execs_nil ⟨σ, H, I, h⟩
theorem pss_cons (h1 : PS X st t) (h2 : PSs X rest u) : PSs X (st :: rest) (tSeq t u) := by
  intro pins s σ H D I h
  refine wpAny_execs_cons (thn (h1 pins s σ H { D with nx := u D } I h) fun f s1 q => ?_)
  cases f with
  | next =>
    obtain ⟨σ', H', I', q⟩ := q
    exact h2 pins s1 σ' H' D I' q
  | ret v => exact q
  | brk => exact q
  | cont => exact q
theorem pss_one (h1 : PS X st t) : PSs X [st] t := by
  intro pins s σ H D I h
  refine wpAny_execs_cons (thn (h1 pins s σ H D I h) fun f s1 q => ?_)
  cases f with
  | next => exact wpAny_execs_nil q
  | ret v => exact q
  | brk => exact q
  | cont => exact q
theorem Inv.quiet {pins : List (Addr × Obj)} {σ : St} {H : Hp} {s : Shared} (I : Inv X pins σ H s) : interactive X.env = false := by simp [interactive, I.ok.kind]
noncomputable def tDrop (te : TE) : TS := fun D σ H => te σ H fun _ H1 => D.nx σ H1
theorem ps_expr (he : PE X e te) (hs : swapsWith e none pos.line X.env = pure false := by rfl) : PS X (.Expr e pos) (tDrop te) := by
  intro pins s σ H D I h
  exact wpAny_Expr_any (thn (he pins s σ H _ I h) fun v s1 ⟨x, H1, I1, r1, q1⟩ => ⟨σ, H1, I1, q1⟩) I.quiet hs
noncomputable def tRet (te : TE) : TS := fun D σ H => te σ H D.rt
theorem ps_ret (he : PE X e te) : PS X (.Return (some e) pos) (tRet te) := by
  intro pins s σ H D I h
  exact wpAny_Return_some (thn (he pins s σ H _ I h) fun v s1 ⟨x, H1, I1, r1, q1⟩ => ⟨x, σ, H1, I1, r1, q1⟩)
noncomputable def tIfS (c : TT) (t u : TS) : TS := fun D σ H => c σ H fun b H1 => if b = true then t D σ H1 else u D σ H1
theorem ps_if {c : Expr} {a b : List Stmt} {tc : TT} (hc : PT X c tc) (ha : PSs X a t) (hb : PSs X b u) : PS X (.If c a b pos) (tIfS tc t u) := by
  intro pins s σ H D I h
  refine wpAny_If (thn (hc pins s σ H _ I h) ?_)
  rintro d s1 ⟨H1, I1, q1⟩
  cases d with
  | true => exact ha pins s1 σ H1 D I1 q1
  | false => exact hb pins s1 σ H1 D I1 q1
noncomputable def tNever : TS := fun _ _ _ => False
theorem ps_never : PS X st tNever := fun _ _ _ _ _ _ h => h.elim
end

noncomputable abbrev TG := V → St → Hp → (St → Hp → Prop) → Prop
noncomputable abbrev TGs := List V → St → Hp → (St → Hp → Prop) → Prop
noncomputable def PG (X : Cx) (target : Expr) (t : TG) : Prop :=
  ∀ (pins : List (Addr × Obj)) (s : Shared) (σ : St) (H : Hp) (v : V) (u : Value) (Q : St → Hp → Prop), Inv X pins σ H s → RelV v u → t v σ H Q →
    wpAny (model X.prog X.w) X.A (assign target X.env u) (fun _ s' => ∃ σ' H', Inv X pins σ' H' s' ∧ Q σ' H') X.xe s
noncomputable def PGs (X : Cx) (ts : List Expr) (t : TGs) : Prop :=
  ∀ (pins : List (Addr × Obj)) (s : Shared) (σ : St) (H : Hp) (vs : List V) (us : List Value) (Q : St → Hp → Prop), Inv X pins σ H s → Vals vs us → t vs σ H Q →
    wpAny (model X.prog X.w) X.A (assignInOrder ((assignEach ts X.env).map (·.2)) us) (fun _ s' => ∃ σ' H', Inv X pins σ' H' s' ∧ Q σ' H') X.xe s
noncomputable abbrev TSet := V → V → V → Hp → (Hp → Prop) → Prop
noncomputable def PSet (X : Cx) (t : TSet) : Prop :=
  ∀ (pins : List (Addr × Obj)) (s : Shared) (σ : St) (H : Hp) (o i v : V) (ov iv u : Value) (Q : Hp → Prop), Inv X pins σ H s → RelV o ov → RelV i iv → RelV v u → t o i v H Q →
    wpAny (model X.prog X.w) X.A (setItem ov iv u) (fun _ s' => ∃ H', Inv X pins σ H' s' ∧ Q H') X.xe s
section
variable {X : Cx} {pos : Pos}
noncomputable def gName (i : Nat) : TG := fun v σ H Q => Q (σ.set i (some v)) H
theorem pg_name {i : Nat} {x : Str} (hN : X.N.Nodup) (hi : X.N[i]? = some x) (hx : Loc X.env.scope x) (hf : X.fn x = true ∨ X.env.scope.names.lookup x = some .local := by first | exact .inl rfl | exact .inr rfl | assumption) : PG X (.Name x pos) (gName i) := by
  intro pins s σ H v u Q I r h
  exact wpAny_assign_Name (store_ok I hN hi hx r (fun s' I' => ⟨_, H, I', h⟩) hf)
noncomputable def gNil : TGs := fun vs σ H Q => vs = [] ∧ Q σ H
noncomputable def gCons (t : TG) (u : TGs) : TGs := fun vs σ H Q => ∃ v r, vs = v :: r ∧ t v σ H fun σ' H' => u r σ' H' Q
theorem pgs_nil : PGs X [] gNil := by
  intro pins s σ H vs us Q I r h
  obtain ⟨e, h⟩ := h
  subst e
  cases r
  exact assignInOrder_nil ⟨σ, H, I, h⟩
theorem pgs_cons {e : Expr} {es : List Expr} {t : TG} {u : TGs} (h1 : PG X e t) (h2 : PGs X es u)
    (hs : (assignEach (e :: es) X.env).map (·.2) = assign e X.env :: (assignEach es X.env).map (·.2) := by rfl) : PGs X (e :: es) (gCons t u) := by
  intro pins s σ H vs us Q I r h
  obtain ⟨v, vr, e1, h⟩ := h
  subst e1
  cases r with
  | cons r rr =>
    rw [hs]
    refine assignInOrder_cons (thn (h1 pins s σ H _ _ _ I r h) ?_)
    rintro _ s1 ⟨σ1, H1, I1, q1⟩
    exact h2 pins s1 σ1 H1 _ _ Q I1 rr q1
noncomputable def gTup (K : PySem.W.Frag) (n : Nat) (t : TGs) : TG := fun v σ H Q => ∃ a xs, v = .ref a ∧ SqT K H a xs ∧ xs.length = n ∧ t xs σ H Q
theorem pg_tup {es : List Expr} {k : Nat} {t : TGs} {n : Nat} (hc : X.calm = true) (h : PGs X es t)
    (hn : (assignEach es X.env).length = n := by rfl) (hst : (assignEach es X.env).findIdx? (·.1) = none := by rfl) : PG X (.Tuple es k pos) (gTup X.K n t) := by
  intro pins s σ H v u Q I r hw
  obtain ⟨a, xs, e1, hq, hl, hw⟩ := hw
  subst e1
  cases r
  obtain ⟨its, rv, ht, hz⟩ := I.tuple hq
  refine assign_Tuple_tuple (I.ok.hd hc) ht (by simp [hn, ← hl, rv.length]) hst fun h' hx => ?_
  have I1 : Inv X pins σ H { s with heap := h' } := I.kept (t' := s.toks) fun b o e => hx b o (Nat.ne_of_lt (Heap.lt_size e)) e
  exact h pins _ σ H xs _ Q I1 (by simpa using rv) hw
noncomputable def gSub (to ti : TE) (t : TSet) : TG := fun v σ H Q => to σ H fun o H1 => ti σ H1 fun i H2 => t o i v H2 fun H3 => Q σ H3
theorem pg_sub {o i : Expr} {to ti : TE} {t : TSet} (ho : PE X o to) (hi : PE X i ti) (hs : PSet X t)
    (ha : ∀ v, assign (.Subscript o i pos) X.env v = (do
      let ov ← holding [v] (eval o X.env)
      let iv ← holding [v, ov] (eval i X.env)
      standAt pos
      holding [v, ov, iv] (setItem ov iv v)
      release [v, ov, iv] []) := by intro _; rfl) : PG X (.Subscript o i pos) (gSub to ti t) := by
  intro pins s σ H v u Q I r h
  rw [ha]
  refine wpAny_bind (wpAny_holding (thn (ho pins s σ H _ I h) ?_))
  rintro ov s1 ⟨x, H1, I1, r1, q1⟩
  refine wpAny_bind (wpAny_holding (thn (hi pins s1 σ H1 _ I1 q1) ?_))
  rintro iv s2 ⟨y, H2, I2, r2, q2⟩
  refine wpAny_bind (wpAny_standAt (wpAny_bind (wpAny_holding (thn (hs pins s2 σ H2 x y v ov iv u _ I2 r1 r2 r q2) ?_))))
  rintro _ s3 ⟨H3, I3, q3⟩
  exact wpAny_release ⟨σ, H3, I3, q3⟩
noncomputable def tAsg (te : TE) (g : TG) : TS := fun D σ H => te σ H fun x H1 => g x σ H1 D.nx
theorem ps_asg {tg e : Expr} {te : TE} {g : TG} (he : PE X e te) (hg : PG X tg g) (hs : swapsWithSole [tg] e pos.line X.env = pure false := by rfl) (hw : swappedStores [tg] e X.env = pure none := by rfl)
    (h1 : (assignEach [tg] X.env).map (·.2) = [assign tg X.env] := by rfl) : PS X (.Assign [tg] e pos) (tAsg te g) := by
  intro pins s σ H D I h
  refine wpAny_Assign_stores (thn (he pins s σ H _ I h) ?_) hs hw
  rintro v s1 ⟨x, H1, I1, r1, q1⟩
  rw [h1]
  exact thn (hg pins s1 σ H1 x v _ I1 r1 q1) fun _ s2 q => q
theorem ps_set {i : Nat} {x : Str} {e : Expr} {te : TE} {pos' : Pos} (hN : X.N.Nodup) (hi : X.N[i]? = some x) (hx : Loc X.env.scope x) (he : PE X e te) (hs : swapsWith e (some (.Name x pos')) pos.line X.env = pure false := by rfl) (hf : X.fn x = true ∨ X.env.scope.names.lookup x = some .local := by first | exact .inl rfl | exact .inr rfl | assumption) :
    PS X (.Assign [.Name x pos'] e pos) (tAsg te (gName i)) := by
  intro pins s σ H D I h
  refine wpAny_Assign_Name (thn (he pins s σ H _ I h) ?_) hs
  rintro v s1 ⟨y, H1, I1, r1, q1⟩
  exact store_ok I1 hN hi hx r1 (fun s2 I2 => ⟨_, H1, I2, q1⟩) hf
end

section
variable {X : Cx} {pos : Pos}
end

structure It where
  go : Nat → Hp → Prop
  yld : Nat → Hp → V → Hp → Prop
  stop : Nat → Hp → Prop
noncomputable def FpOk (X : Cx) (pins : List (Addr × Obj)) (H : Hp) (b : Addr) : Prop :=
  H b = none ∧ b ≠ X.env.locals ∧ b ∉ X.fs ∧ (b ∈ X.ex ∨ X.s₀.heap.objs.size ≤ b) ∧ (∀ x c, X.env.cells.lookup x = some c → c ≠ b) ∧ ∀ p ∈ X.pn ++ pins, p.1 ≠ b
theorem Inv.fpOk {X : Cx} {pins : List (Addr × Obj)} {σ : St} {H H' : Hp} {s : Shared} {b : Addr} (I : Inv X pins σ H s) (hb : s.heap.objs.size ≤ b) (hn : H' b = none) : FpOk X pins H' b := by
  refine ⟨hn, Nat.ne_of_gt (Nat.lt_of_lt_of_le I.lt hb), I.nofs hb, .inr (Nat.le_trans I.sz hb), fun x c e z => ?_, fun p hp z => ?_⟩
  · obtain ⟨v, q⟩ := I.cell x c e
    exact absurd (Nat.lt_of_lt_of_le q.lt (by rw [z]; exact hb)) (Nat.lt_irrefl _)
  · exact absurd (Nat.lt_of_lt_of_le (Heap.lt_size (I.pin p hp).1) (by rw [z]; exact hb)) (Nat.lt_irrefl _)
structure Turn (P : Program) (w : World) (K : PySem.W.Frag) (tg : Expr) (J : It) (fp : List Addr) (it : Addr) (tn : Nat → Heap → Prop) : Prop where
  mem : it ∈ fp
  obj : ∀ i h, tn i h → ∀ b ∈ fp, ∃ o, h.get? b = some o ∧ ∀ v, o.data ≠ .cell v
  keep : ∀ i h h', tn i h → (∀ b ∈ fp, ∀ o, h.get? b = some o → h'.get? b = some o) → tn i h'
  item : ∀ (X : Cx), X.prog = P → X.w = w → X.K = K → X.calm = true → ∀ (i : Nat) (pins : List (Addr × Obj)) (s : Shared) (σ : St) (H : Hp) (E : Value → Shared → Prop), Inv X pins σ H s → (∀ b ∈ fp, FpOk X pins H b) → tn i s.heap → J.go i H →
    wpAny (model P w) X.A (pyNext (.ref it)) (fun r s1 => ∃ u, r = some u ∧
      wpAny (model P w) X.A (letOwnedTupleGo tg (.ref it) u) (fun _ s2 => ∃ x H', Inv X pins σ H' s2 ∧ RelV x u ∧ J.yld i H x H' ∧ tn (i + 1) s2.heap ∧ ∀ b ∈ fp, H' b = none) E s1) E s
  done : ∀ (X : Cx), X.prog = P → X.w = w → X.K = K → X.calm = true → ∀ (i : Nat) (pins : List (Addr × Obj)) (s : Shared) (σ : St) (H : Hp) (E : Value → Shared → Prop), Inv X pins σ H s → (∀ b ∈ fp, FpOk X pins H b) → tn i s.heap → J.stop i H →
    wpAny (model P w) X.A (pyNext (.ref it)) (fun r s1 => r = none ∧ Inv X pins σ H s1) E s
  self : ∀ (A : Around) (i : Nat) (s : Shared) (Q : Value → Shared → Prop) (E : Value → Shared → Prop), tn i s.heap → Q (.ref it) s → wpAny (model P w) A (pyIter (.ref it)) Q E s
noncomputable abbrev TI := St → Hp → (It → Hp → Prop) → Prop
noncomputable def PIE (X : Cx) (pins : List (Addr × Obj)) (σ : St) (tg : Expr) (R : It → Hp → Prop) (itv : Value) (s2 : Shared) : Prop :=
  ∃ (it : Addr) (fp : List Addr) (tn : Nat → Heap → Prop) (J : It) (H' : Hp), itv = .ref it ∧ Inv X pins σ H' s2 ∧ Turn X.prog X.w X.K tg J fp it tn ∧ tn 0 s2.heap ∧ (∀ b ∈ fp, FpOk X pins H' b) ∧ R J H'
noncomputable def PI (X : Cx) (tg iter : Expr) (wi : TI) : Prop :=
  ∀ (pins : List (Addr × Obj)) (s : Shared) (σ : St) (H : Hp) (R : It → Hp → Prop), Inv X pins σ H s → wi σ H R →
    wpAny (model X.prog X.w) X.A (eval iter X.env) (fun v s1 => wpAny (model X.prog X.w) X.A (pyIter v) (PIE X pins σ tg R) X.xe s1) X.xe s

theorem go_of {M : Model} {A : Around} {E : Value → Shared → Prop} {s : Shared} {tg : Expr} {it : Addr} {u : Value} {o : Obj} {n : String} {vs : Array Value} {Q : Unit → Shared → Prop} (ho : s.heap.get? it = some o) (hc : o.cls = .type n) (hd : o.data = .fields vs)
    (hn : ["enumerate", "zip", "dict_itemiterator", "dict_reverseitemiterator", "odict_iterator", "itertools.zip_longest", "itertools.pairwise"].contains n = false) (hQ : Q () s) : wpAny M A (letOwnedTupleGo tg (.ref it) u) Q E s := by
  unfold letOwnedTupleGo
  cases tg <;> first
    | exact wpAny_pure hQ
    | (cases u <;> first
        | exact wpAny_pure hQ
        | (refine wpAny_bind (wpAny_load ho ?_)
           rw [hc, hd]
           show wpAny M A (if (["enumerate", "zip", "dict_itemiterator", "dict_reverseitemiterator", "odict_iterator", "itertools.zip_longest", "itertools.pairwise"].contains n && vs[0]? == some (rawInt _)) = true then _ else _) Q E s
           rw [if_neg (by intro h; rw [hn, Bool.false_and] at h; cases h)]
           exact wpAny_pure hQ))

noncomputable def Itl (K : PySem.W.Frag) (a : Addr) : It :=
  ⟨fun i H => ∃ xs x, SqL K H a xs ∧ xs[i]? = some x, fun i H x H' => H' = H ∧ ∀ xs, SqL K H a xs → xs[i]? = some x, fun i H => ∃ xs, SqL K H a xs ∧ xs.length ≤ i⟩
noncomputable def Itt (K : PySem.W.Frag) (a : Addr) : It :=
  ⟨fun i H => ∃ xs x, SqT K H a xs ∧ xs[i]? = some x, fun i H x H' => H' = H ∧ ∀ xs, SqT K H a xs → xs[i]? = some x, fun i H => ∃ xs, SqT K H a xs ∧ xs.length ≤ i⟩
noncomputable def Itr (lo : Int) (n : Nat) : It := ⟨fun i _ => i < n, fun i H x H' => H' = H ∧ x = .int (lo + i), fun i _ => n ≤ i⟩
theorem turn_list {P : Program} {w : World} {K : PySem.W.Frag} {tg : Expr} (a it : Addr) : Turn P w K tg (Itl K a) [it] it (fun i h => h.IsListIter it a i) where
  mem := by simp
  obj := fun i h st b hb => by
    have e : b = it := by simpa using hb
    subst e
    obtain ⟨o, e, c, d⟩ := st
    exact ⟨o, e, fun v z => by rw [d] at z; cases z⟩
  keep := fun i h h' st k => st.at fun o e => k it (by simp) o e
  item := by
    intro X hP hw hK hc i pins s σ H E I hf st hg
    subst hP hw hK
    obtain ⟨xs, x, hq, hx⟩ := hg
    obtain ⟨its, rv, p, hz⟩ := I.list hq
    obtain ⟨u, hu, ru⟩ := rv.get hx
    obtain ⟨f0, f1, f2, f3, f4, f5⟩ := hf it (by simp)
    refine wpAny_pyNext_list_item st p.isList (x := u) (by simpa using hu) fun h' st' sb => ?_
    have I1 : Inv X pins σ H { s with heap := h' } := I.turned (t' := s.toks) (fun b o hb e => (sb.2 b hb).trans e) f0 f1 f3 f4 f5
    obtain ⟨o, e, c, d⟩ := id st'
    exact ⟨u, rfl, go_of (s := { s with heap := h' }) e c d (by decide) ⟨x, H, I1, ru, ⟨rfl, fun ys hy => by rw [I.list_inj hy hq]; exact hx⟩, st', fun b hb => (hf b hb).1⟩⟩
  done := by
    intro X hP hw hK hc i pins s σ H E I hf st hg
    subst hP hw hK
    obtain ⟨xs, hq, hx⟩ := hg
    obtain ⟨its, rv, p, hz⟩ := I.list hq
    obtain ⟨f0, f1, f2, f3, f4, f5⟩ := hf it (by simp)
    have hl := rv.length
    exact wpAny_pyNext_list_end (I.ok.hd hc) st p.isList (by simp; omega) fun h' eb => ⟨rfl, I.turned (t' := s.toks) (fun b o hb e => eb b o hb e) f0 f1 f3 f4 f5⟩
  self := fun _ _ _ _ _ st h => wpAny_pyIter_listiter st h
theorem turn_tuple {P : Program} {w : World} {K : PySem.W.Frag} {tg : Expr} (a it : Addr) : Turn P w K tg (Itt K a) [it] it (fun i h => h.IsTupleIter it a i) where
  mem := by simp
  obj := fun i h st b hb => by
    have e : b = it := by simpa using hb
    subst e
    obtain ⟨o, e, c, d⟩ := st
    exact ⟨o, e, fun v z => by rw [d] at z; cases z⟩
  keep := fun i h h' st k => st.at fun o e => k it (by simp) o e
  item := by
    intro X hP hw hK hc i pins s σ H E I hf st hg
    subst hP hw hK
    obtain ⟨xs, x, hq, hx⟩ := hg
    obtain ⟨its, rv, p, hz⟩ := I.tuple hq
    obtain ⟨u, hu, ru⟩ := rv.get hx
    obtain ⟨f0, f1, f2, f3, f4, f5⟩ := hf it (by simp)
    refine wpAny_pyNext_tuple_item st (show s.heap.IsTuple a its.toArray from p) (x := u) (by simpa using hu) fun h' st' sb => ?_
    have I1 : Inv X pins σ H { s with heap := h' } := I.turned (t' := s.toks) (fun b o hb e => (sb.2 b hb).trans e) f0 f1 f3 f4 f5
    obtain ⟨o, e, c, d⟩ := id st'
    exact ⟨u, rfl, go_of (s := { s with heap := h' }) e c d (by decide) ⟨x, H, I1, ru, ⟨rfl, fun ys hy => by rw [I.tuple_inj hy hq]; exact hx⟩, st', fun b hb => (hf b hb).1⟩⟩
  done := by
    intro X hP hw hK hc i pins s σ H E I hf st hg
    subst hP hw hK
    obtain ⟨xs, hq, hx⟩ := hg
    obtain ⟨its, rv, p, hz⟩ := I.tuple hq
    obtain ⟨f0, f1, f2, f3, f4, f5⟩ := hf it (by simp)
    have hl := rv.length
    exact wpAny_pyNext_tuple_end (I.ok.hd hc) st (show s.heap.IsTuple a its.toArray from p) (by simp; omega) fun h' eb => ⟨rfl, I.turned (t' := s.toks) (fun b o hb e => eb b o hb e) f0 f1 f3 f4 f5⟩
  self := fun _ _ _ _ _ st h => wpAny_pyIter_tupleiter st h
theorem turn_range {P : Program} {w : World} {K : PySem.W.Frag} {tg : Expr} (it : Addr) (lo : Int) (n : Nat) : Turn P w K tg (Itr lo n) [it] it (fun i h => IsRangeIter h it (lo + (i : Nat) * 1) ((n : Int) - (i : Nat)) 1) where
  mem := by simp
  obj := fun i h st b hb => by
    have e : b = it := by simpa using hb
    subst e
    exact ⟨_, st, fun v z => by
      have z' : Data.fields _ = Data.cell v := z
      cases z'⟩
  keep := fun i h h' st k => k it (by simp) _ st
  item := by
    intro X hP hw hK hc i pins s σ H E I hf st hg
    subst hP hw hK
    obtain ⟨f0, f1, f2, f3, f4, f5⟩ := hf it (by simp)
    have W := Walks.range (prog := X.prog) (w := X.w) (I.ok.hd hc) it lo 1 n
    refine W.item i s _ _ hg st fun v h' tk hv st' kk => ?_
    obtain ⟨t, rfl⟩ := hv
    have I1 : Inv X pins σ H { s with heap := h', toks := tk } := I.turned (fun b o hb e => kk b o (by simpa using hb) e) f0 f1 f3 f4 f5
    refine ⟨_, rfl, go_of (s := { s with heap := h', toks := tk }) (n := "range_iterator") st' rfl rfl (by decide) ⟨.int (lo + i), H, I1, ⟨t, ?_⟩, ⟨rfl, rfl⟩, st', fun b hb => (hf b hb).1⟩⟩
    rw [Int.mul_one]
  done := by
    intro X hP hw hK hc i pins s σ H E I hf st hg
    subst hP hw hK
    obtain ⟨f0, f1, f2, f3, f4, f5⟩ := hf it (by simp)
    exact wpAny_pyNext_range_end (I.ok.hd hc) st (by have : n ≤ i := hg; omega) fun h' eb => ⟨rfl, I.turned (t' := s.toks) (fun b o hb e => eb b o hb e) f0 f1 f3 f4 f5⟩
  self := fun _ _ _ _ _ st h => wpAny_pyIter_rangeiter st h
end L2

namespace L2
open PySem PySem.Spec PyProof.Rows
section
variable {X : Cx} {tg : Expr}
noncomputable def iList (K : PySem.W.Frag) (tl : TE) : TI := fun σ H R => tl σ H fun x H1 => ∃ a, x = .ref a ∧ (∃ xs, SqL K H1 a xs) ∧ R (Itl K a) H1
noncomputable def iTup (K : PySem.W.Frag) (tl : TE) : TI := fun σ H R => tl σ H fun x H1 => ∃ a, x = .ref a ∧ (∃ xs, SqT K H1 a xs) ∧ R (Itt K a) H1
theorem pi_list {l : Expr} {tl : TE} (hl : PE X l tl) : PI X tg l (iList X.K tl) := by
  intro pins s σ H R I h
  refine thn (hl pins s σ H _ I h) ?_
  rintro v s1 ⟨x, H1, I1, r1, q1⟩
  obtain ⟨a, e, ⟨xs, hq⟩, q⟩ := q1
  subst e
  cases r1
  obtain ⟨its, rv, p, hz⟩ := I1.list hq
  refine wpAny_pyIter_list p.isList ?_
  refine ⟨s1.heap.objs.size, [s1.heap.objs.size], _, _, H1, rfl, I1.kept (t' := s1.toks) fun b o e => Heap.get?_push_of_some _ e, turn_list a _, ⟨_, Heap.get?_push_size _ rfl, rfl, rfl⟩, fun b hb => ?_, q⟩
  have e : b = s1.heap.objs.size := by simpa using hb
  subst e
  exact I1.fpOk (Nat.le_refl _) (I1.hok.fresh (Nat.le_refl _))
theorem pi_tup {l : Expr} {tl : TE} (hl : PE X l tl) : PI X tg l (iTup X.K tl) := by
  intro pins s σ H R I h
  refine thn (hl pins s σ H _ I h) ?_
  rintro v s1 ⟨x, H1, I1, r1, q1⟩
  obtain ⟨a, e, ⟨xs, hq⟩, q⟩ := q1
  subst e
  cases r1
  obtain ⟨its, rv, p, hz⟩ := I1.tuple hq
  refine wpAny_pyIter_tuple (show s1.heap.IsTuple a its.toArray from p) ?_
  refine ⟨s1.heap.objs.size, [s1.heap.objs.size], _, _, H1, rfl, I1.kept (t' := s1.toks) fun b o e => Heap.get?_push_of_some _ e, turn_tuple a _, ⟨_, Heap.get?_push_size _ rfl, rfl, rfl⟩, fun b hb => ?_, q⟩
  have e : b = s1.heap.objs.size := by simpa using hb
  subst e
  exact I1.fpOk (Nat.le_refl _) (I1.hok.fresh (Nat.le_refl _))
theorem range_it {pins : List (Addr × Obj)} {σ : St} {H : Hp} {s : Shared} {R : It → Hp → Prop} {E : Value → Shared → Prop} {lo hi : Int} {t u v : Tok} {tk : Nat} (I : Inv X pins σ H s) (h1 : -(2 ^ 62) ≤ lo) (h2 : lo < 2 ^ 62) (h3 : -(2 ^ 62) ≤ hi) (h4 : hi < 2 ^ 62)
    (q : R (Itr lo (hi - lo).toNat) H) : wpAny (model X.prog X.w) X.A (pyIter (.ref s.heap.objs.size)) (PIE X pins σ tg R) E { s with heap := s.heap.push { cls := .type "range", data := .fields #[.int lo t, .int hi u, .int 1 v] }, toks := tk } := by
  refine wpAny_pyIter_range (IsRange.new ..) (small_one h1 h2 h3 h4) ?_
  have I1 : Inv X pins σ H { s with heap := s.heap.push { cls := .type "range", data := .fields #[.int lo t, .int hi u, .int 1 v] }, toks := tk } := I.kept fun b o e => Heap.get?_push_of_some _ e
  refine ⟨(s.heap.push { cls := .type "range", data := .fields #[.int lo t, .int hi u, .int 1 v] }).objs.size, [(s.heap.push { cls := .type "range", data := .fields #[.int lo t, .int hi u, .int 1 v] }).objs.size], _, _, H, rfl,
    I1.kept (t' := tk) fun b o e => Heap.get?_push_of_some _ e, turn_range _ lo (hi - lo).toNat, ?_, fun b hb => ?_, q⟩
  · have e1 : lo + ((0 : Nat) : Int) * 1 = lo := by simp
    have e2 : (((hi - lo).toNat : Nat) : Int) - ((0 : Nat) : Int) = Builtin.Range.rangeSize lo hi 1 := by rw [rangeSize_one]; split <;> omega
    show IsRangeIter _ _ (lo + ((0 : Nat) : Int) * 1) ((((hi - lo).toNat : Nat) : Int) - ((0 : Nat) : Int)) 1
    rw [e1, e2]
    exact Heap.get?_push_size _ rfl
  · have e : b = (s.heap.push { cls := .type "range", data := .fields #[.int lo t, .int hi u, .int 1 v] }).objs.size := by simpa using hb
    subst e
    exact I1.fpOk (Nat.le_refl _) (I1.hok.fresh (Nat.le_refl _))
noncomputable def iRng1 (ta : TA) : TI := fun σ H R => ta σ H fun vs H1 => ∃ j : Int, vs = [.int j] ∧ -(2 ^ 62) ≤ j ∧ j < 2 ^ 62 ∧ R (Itr 0 j.toNat) H1
theorem pi_range1 {a : Expr} {ta : TA} {p pos : Pos} (hg : Gl X "range") (hm : X.mg "range" = none) (ha : PA X [a] ta) (hs : starEach [a] X.env = [(false, eval a X.env)] := by rfl) : PI X tg (.Call (.Name "range" p) [a] [] pos) (iRng1 ta) := by
  intro pins s σ H R I h
  refine Call_ (ld_blt I hg hm boot_range (PyProof.Rows.callWith_type1 (thn (ha pos pins s σ H _ I h) ?_) hs rfl))
  rintro us s1 ⟨vs, H1, I1, r1, q1⟩
  obtain ⟨j, e, q1, q2, q⟩ := q1
  subst e
  cases r1 with
  | cons r rr =>
    cases rr
    obtain ⟨t, rfl⟩ := r
    exact call_range_1 (range_it I1 (by omega) (by omega) q1 q2 (by simpa using q))

noncomputable def tFor (wi : TI) (g : TG) (tb : TS) : TS := fun D σ H => wi σ H fun J H1 => ∃ W : Nat → Nat → St → Hp → Prop, (∃ m, W 0 m σ H1) ∧ ∀ i m σ H, W i m σ H →
  (J.stop i H ∧ D.nx σ H) ∨ (J.go i H ∧ ∃ N : St → Hp → Prop, (∀ σ' H', N σ' H' → ∃ m', m' < m ∧ W (i + 1) m' σ' H') ∧ ∀ x H', J.yld i H x H' → g x σ H' fun σ2 H2 => tb { D with nx := N, ct := N, bk := D.nx } σ2 H2)
noncomputable def pinsAt (fp : List Addr) (h : Heap) : List (Addr × Obj) := fp.filterMap fun b => (h.get? b).map fun o => (b, o)
theorem mem_pinsAt {fp : List Addr} {h : Heap} {b : Addr} {o : Obj} (hb : b ∈ fp) (e : h.get? b = some o) : (b, o) ∈ pinsAt fp h := List.mem_filterMap.mpr ⟨b, hb, by rw [e]; rfl⟩
theorem of_pinsAt {fp : List Addr} {h : Heap} {p : Addr × Obj} (hp : p ∈ pinsAt fp h) : p.1 ∈ fp ∧ h.get? p.1 = some p.2 := by
  obtain ⟨b, hb, e⟩ := List.mem_filterMap.mp hp
  cases q : h.get? b with
  | none => rw [q] at e; cases e
  | some o =>
    rw [q] at e
    have e' : (b, o) = p := Option.some.inj e
    subst e'
    exact ⟨hb, q⟩
theorem Inv.pinned {pins : List (Addr × Obj)} {σ : St} {H : Hp} {s : Shared} {fp : List Addr} (I : Inv X pins σ H s) (hf : ∀ b ∈ fp, FpOk X pins H b) (ho : ∀ b ∈ fp, ∃ o, s.heap.get? b = some o ∧ ∀ v, o.data ≠ .cell v) : Inv X (pins ++ pinsAt fp s.heap) σ H s :=
  I.pins_of fun p hp => (List.mem_append.mp hp).elim (fun z => I.pin p (List.mem_append_right _ z)) fun z => by
    obtain ⟨hb, e⟩ := of_pinsAt z
    obtain ⟨f0, f1, f2, _⟩ := hf p.1 hb
    obtain ⟨o, e', d⟩ := ho p.1 hb
    rw [e] at e'; cases e'
    exact ⟨e, f0, f1, f2, d⟩
theorem Inv.unpinned {pins pl : List (Addr × Obj)} {σ : St} {H : Hp} {s : Shared} (I : Inv X (pins ++ pl) σ H s) : Inv X pins σ H s := I.pins_of fun p hp => I.pin p (List.mem_append_right _ (List.mem_append_left _ hp))
theorem ps_for {iter : Expr} {body : List Stmt} {wi : TI} {g : TG} {tb : TS} {pos : Pos} (hp : PassesOwn (model X.prog X.w) X.A X.env X.xe) (hc : X.calm = true) (hi : PI X tg iter wi) (hg : PG X tg g) (hb : PSs X body tb)
    (hs : ∀ x, foldedSetIterable iter X.env x = pure x := by intro _; rfl) : PS X (.For tg iter body [] pos) (tFor wi g tb) := by
  intro pins s σ H D I h
  refine wpAny_For (thn (hi pins s σ H _ I h) fun v s1 h1 => thn h1 fun itv s2 h2 => ?_) hs
  obtain ⟨it, fp, tn, J, H2, e, I2, T, st2, f2, W, ⟨m0, w0⟩, turn⟩ := h2
  subst e
  -- what stays true of the iterator's objects through the loop
  have stat : ∀ {H' : Hp}, (∀ b ∈ fp, H' b = none) → ∀ b ∈ fp, FpOk X pins H' b := fun hn b hb => ⟨hn b hb, (f2 b hb).2⟩
  refine codeAny_forLoop_any (fun n s' => ∃ i σ' H', Inv X pins σ' H' s' ∧ tn i s'.heap ∧ (∀ b ∈ fp, H' b = none) ∧ W i n σ' H') ?_ m0 ⟨0, σ, H2, I2, st2, fun b hb => (f2 b hb).1, w0⟩
  rintro n s3 ⟨i, σ3, H3, I3, st3, fr3, w3⟩
  rcases turn i n σ3 H3 w3 with ⟨stop, qn⟩ | ⟨go, N, hN, step⟩
  · refine wpAny_passesOwn hp (thn (T.done X rfl rfl rfl hc i pins s3 σ3 H3 X.xe I3 (stat fr3) st3 stop) ?_)
    rintro r s4 ⟨hr, I4⟩
    subst hr
    exact wpAny_execs_nil ⟨σ3, H3, I4, qn⟩
  · refine wpAny_passesOwn hp (thn (T.item X rfl rfl rfl hc i pins s3 σ3 H3 X.xe I3 (stat fr3) st3 go) ?_)
    rintro r s4 ⟨u, hr, h4⟩
    subst hr
    refine wpAny_passesOwn hp (thn h4 ?_)
    rintro _ s5 ⟨x, H5, I5, r5, y5, st5, fr5⟩
    have I5' := I5.pinned (stat fr5) (T.obj _ _ st5)
    refine wpAny_passesOwn hp (thn (hg _ s5 σ3 H5 x u _ I5' r5 (step x H5 y5)) ?_)
    rintro _ s6 ⟨σ6, H6, I6, q6⟩
    refine wpAny_passesOwn hp (thn (hb _ s6 σ6 H6 _ I6 q6) fun f s7 q7 => ?_)
    have again : ∀ {σ7 : St} {H7 : Hp}, Inv X (pins ++ pinsAt fp s5.heap) σ7 H7 s7 → N σ7 H7 → ∃ m, m < n ∧ ∃ i σ' H', Inv X pins σ' H' s7 ∧ tn i s7.heap ∧ (∀ b ∈ fp, H' b = none) ∧ W i m σ' H' := fun {σ7 H7} I7 n7 => by
      obtain ⟨m', hm, w7⟩ := hN σ7 H7 n7
      refine ⟨m', hm, i + 1, σ7, H7, I7.unpinned, T.keep _ _ _ st5 fun b hb o e => (I7.pin (b, o) (List.mem_append_right _ (List.mem_append_right _ (mem_pinsAt hb e)))).1, fun b hb => ?_, w7⟩
      obtain ⟨o, e, d⟩ := T.obj _ _ st5 b hb
      exact (I7.pin (b, o) (List.mem_append_right _ (List.mem_append_right _ (mem_pinsAt hb e)))).2.1
    cases f with
    | next => obtain ⟨σ7, H7, I7, n7⟩ := q7; exact again I7 n7
    | cont => obtain ⟨σ7, H7, I7, n7⟩ := q7; exact again I7 n7
    | brk => obtain ⟨σ7, H7, I7, q7⟩ := q7; exact ⟨σ7, H7, I7.unpinned, q7⟩
    | ret v => obtain ⟨x7, σ7, H7, I7, r7, q7⟩ := q7; exact ⟨x7, σ7, H7, I7.unpinned, r7, q7⟩
end

end L2

namespace L2
open PySem PySem.Spec PyProof.Rows

noncomputable abbrev R2 := V → V → Hp → VK → Prop
noncomputable def OpR (X : Cx) (f : Value → Value → Sem Value) (r : R2) : Prop :=
  ∀ (pins : List (Addr × Obj)) (s : Shared) (σ : St) (H : Hp) (x y : V) (v u : Value) (Q : VK), Inv X pins σ H s → RelV x v → RelV y u → r x y H Q →
    wpAny (model X.prog X.w) X.A (f v u) (EP X pins σ Q) X.xe s
noncomputable def CallR (X : Cx) (f : Value) (r : List V → Hp → VK → Prop) : Prop :=
  ∀ (pins : List (Addr × Obj)) (s : Shared) (σ : St) (H : Hp) (xs : List V) (us : List Value) (Q : VK), Inv X pins σ H s → Vals xs us → r xs H Q →
    wpAny (model X.prog X.w) X.A (call f us) (EP X pins σ Q) X.xe s
noncomputable def TruR (X : Cx) (r : V → Hp → (Bool → Hp → Prop) → Prop) : Prop :=
  ∀ (pins : List (Addr × Obj)) (s : Shared) (σ : St) (H : Hp) (x : V) (v : Value) (Q : Bool → Hp → Prop), Inv X pins σ H s → RelV x v → r x H Q →
    wpAny (model X.prog X.w) X.A (truthy v) (TP X pins σ Q) X.xe s

noncomputable def tOp (r : R2) (ta tb : TE) : TE := fun σ H Q => ta σ H fun x H1 => tb σ H1 fun y H2 => r x y H2 Q
noncomputable def rI (C : Int → Int → Prop) (g : Int → Int → V) : R2 := fun x y H Q => ∃ i j, x = .int i ∧ y = .int j ∧ C i j ∧ Q (g i j) H
noncomputable def rI0 (g : Int → Int → V) : R2 := fun x y H Q => ∃ i j, x = .int i ∧ y = .int j ∧ Q (g i j) H

section
variable {X : Cx} {a b c : Expr} {ta tb tc : TE} {pos : Pos}

theorem binT (ha : PE X a ta) (hb : PE X b tb) {pins : List (Addr × Obj)} {s : Shared} {σ : St} {H : Hp} {R : V → V → Hp → Prop} (I : Inv X pins σ H s)
    (h : ta σ H fun x H1 => tb σ H1 fun y H2 => R x y H2) {Q : Value → Shared → Prop} {f : Value → Value → Sem Value}
    (hf : ∀ v u s2 x y H2, Inv X pins σ H2 s2 → RelV x v → RelV y u → R x y H2 → wpAny (model X.prog X.w) X.A (f v u) Q X.xe s2) :
    wpAny (model X.prog X.w) X.A (eval a X.env) (fun v s₁ => wpAny (model X.prog X.w) X.A (eval b X.env) (fun u s₂ => wpAny (model X.prog X.w) X.A (f v u) Q X.xe s₂) X.xe s₁) X.xe s := by
  refine thn (ha pins s σ H _ I h) ?_
  rintro v s1 ⟨x, H1, I1, r1, q1⟩
  refine thn (hb pins s1 σ H1 _ I1 q1) ?_
  rintro u s2 ⟨y, H2, I2, r2, q2⟩
  exact hf v u s2 x y H2 I2 r1 r2 q2

theorem pe_op {op : Operator} {r : R2} (ho : OpR X (binaryOp op) r) (ha : PE X a ta) (hb : PE X b tb) : PE X (.BinOp a op b pos) (tOp r ta tb) := by
  intro pins s σ H Q I h
  exact wpAny_BinOp (binT ha hb I h fun v u s2 x y H2 I2 rx ry q => ho pins s2 σ H2 x y v u Q I2 rx ry q)

theorem opI {f : Value → Value → Sem Value} {C : Int → Int → Prop} {g : Int → Int → Int}
    (rule : ∀ (i j : Int) (t u : Tok) (s : Shared) (Q : Value → Shared → Prop) (E : Value → Shared → Prop), C i j → Q (.int (g i j) s.toks) { s with toks := s.toks + 1 } → wpAny (model X.prog X.w) X.A (f (.int i t) (.int j u)) Q E s) :
    OpR X f (rI C fun i j => .int (g i j)) := by
  intro pins s σ H x y v u Q I rx ry h
  obtain ⟨i, j, rfl, rfl, hc, q⟩ := h
  obtain ⟨t, rfl⟩ := rx
  obtain ⟨t', rfl⟩ := ry
  exact rule i j t t' s _ _ hc ⟨.int (g i j), H, I.tok _, ⟨_, rfl⟩, q⟩
theorem opI0 {f : Value → Value → Sem Value} {g : Int → Int → Int}
    (rule : ∀ (i j : Int) (t u : Tok) (s : Shared) (Q : Value → Shared → Prop) (E : Value → Shared → Prop), Q (.int (g i j) s.toks) { s with toks := s.toks + 1 } → wpAny (model X.prog X.w) X.A (f (.int i t) (.int j u)) Q E s) :
    OpR X f (rI0 fun i j => .int (g i j)) := by
  intro pins s σ H x y v u Q I rx ry h
  obtain ⟨i, j, rfl, rfl, q⟩ := h
  obtain ⟨t, rfl⟩ := rx
  obtain ⟨t', rfl⟩ := ry
  exact rule i j t t' s _ _ ⟨.int (g i j), H, I.tok _, ⟨_, rfl⟩, q⟩
theorem opB0 {f : Value → Value → Sem Value} {g : Int → Int → Bool}
    (rule : ∀ (i j : Int) (t u : Tok) (s : Shared) (Q : Value → Shared → Prop) (E : Value → Shared → Prop), Q (.bool (g i j)) s → wpAny (model X.prog X.w) X.A (f (.int i t) (.int j u)) Q E s) :
    OpR X f (rI0 fun i j => .bl (g i j)) := by
  intro pins s σ H x y v u Q I rx ry h
  obtain ⟨i, j, rfl, rfl, q⟩ := h
  obtain ⟨t, rfl⟩ := rx
  obtain ⟨t', rfl⟩ := ry
  exact rule i j t t' s _ _ ⟨.bl (g i j), H, I, rfl, q⟩

noncomputable def CDiv (i j : Int) : Prop := 0 < j ∧ j < 1073741824
noncomputable def CMul (i j : Int) : Prop := (-(2 ^ 64) < i ∧ i < 2 ^ 64) ∨ (-(2 ^ 64) < j ∧ j < 2 ^ 64)
theorem CMul.ok {i j : Int} (h : CMul i j) : IntMulOk i j := by
  rcases h with ⟨h1, h2⟩ | ⟨h1, h2⟩
  · exact .of_left (intBits_le_64 h1 h2)
  · exact .of_right (intBits_le_64 h1 h2)

theorem op_add : OpR X (binaryOp .Add) (rI0 fun i j => .int (i + j)) := opI0 fun _ _ _ _ _ _ _ q => add_int q
theorem op_sub : OpR X (binaryOp .Sub) (rI0 fun i j => .int (i - j)) := opI0 fun _ _ _ _ _ _ _ q => sub_int q
theorem op_mul : OpR X (binaryOp .Mult) (rI CMul fun i j => .int (i * j)) := opI fun _ _ _ _ _ _ _ hc q => mul_int q hc.ok
theorem op_fdiv : OpR X (binaryOp .FloorDiv) (rI CDiv fun i j => .int (i / j)) := opI fun i j _ _ _ _ _ hc q => by
  have h1 : (0 : Int) < j := hc.1
  have h2 : j < 1073741824 := hc.2
  exact floordiv_int (by omega) (by rw [Int.fdiv_eq_ediv_of_nonneg i (by omega)]; exact q) (.inl (PyProof.noPylong_small (by omega)))
theorem op_mod : OpR X (binaryOp .Mod) (rI (fun _ j => 0 < j) fun i j => .int (i % j)) := opI fun i j _ _ _ _ _ hc q => by
  have h1 : (0 : Int) < j := hc
  exact mod_int' (by omega) (by rw [Int.fmod_eq_emod_of_nonneg i (by omega)]; exact q)

end

section
variable {X : Cx} {a b c : Expr} {ta tb tc : TE} {pos : Pos}
theorem fin_bl {pins : List (Addr × Obj)} {σ : St} {H : Hp} {s : Shared} {Q : VK} {k k' : Bool} (I : Inv X pins σ H s) (q : Q (.bl k) H) (e : k = k') : EP X pins σ Q (.bool k') s := by
  subst e
  exact ⟨.bl k, H, I, rfl, q⟩

theorem op_lt : OpR X (compareOp .Lt) (rI0 fun i j => .bl (decide (i < j))) := opB0 fun _ _ _ _ _ _ _ q => lt_int q
theorem op_le : OpR X (compareOp .LtE) (rI0 fun i j => .bl (decide (i ≤ j))) := opB0 fun _ _ _ _ _ _ _ q => le_int q
theorem op_gt : OpR X (compareOp .Gt) (rI0 fun i j => .bl (decide (j < i))) := opB0 fun _ _ _ _ _ _ _ q => gt_int q
theorem op_ge : OpR X (compareOp .GtE) (rI0 fun i j => .bl (decide (j ≤ i))) := opB0 fun _ _ _ _ _ _ _ q => ge_int q

theorem OpR.or {f : Value → Value → Sem Value} {r r' : R2} (h : OpR X f r) (h' : OpR X f r') : OpR X f (fun x y H Q => r x y H Q ∨ r' x y H Q) := by
  intro pins s σ H x y v u Q I rx ry q
  rcases q with q | q
  · exact h pins s σ H x y v u Q I rx ry q
  · exact h' pins s σ H x y v u Q I rx ry q

theorem nomark (b : Expr) {op : CmpOp} (h : op ≠ .In := by decide) (h2 : op ≠ .NotIn := by decide) : behindInMarks op b = false := by
  have e1 : (op == CmpOp.In) = false := by cases op <;> first | rfl | exact absurd rfl h
  have e2 : (op == CmpOp.NotIn) = false := by cases op <;> first | rfl | exact absurd rfl h2
  cases b <;> simp [behindInMarks, e1, e2]
theorem pe_cmpR {op : CmpOp} {r : R2} (ho : OpR X (compareOp op) r) (ha : PE X a ta) (hb : PE X b tb) (hm : behindInMarks op b = false) : PE X (.Compare a [op] [b] pos) (tOp r ta tb) := by
  intro pins s σ H Q I h
  exact wpAny_Compare1 (binT ha hb I h fun v u s2 x y H2 I2 rx ry q => ho pins s2 σ H2 x y v u Q I2 rx ry q) hm
noncomputable def tTest (t : TE) : TT := fun σ H Q => t σ H fun x H' => ∃ k, x = .bl k ∧ Q k H'
theorem pt_cmpR {op : CmpOp} {r : R2} (ho : OpR X (compareOp op) r) (ha : PE X a ta) (hb : PE X b tb) (hm : behindInMarks op b = false) : PT X (.Compare a [op] [b] pos) (tTest (tOp r ta tb)) := by
  intro pins s σ H Q I h
  refine wpAny_isTrue_Compare1 (thn (ha pins s σ H _ I h) fun v s1 ⟨x, H1, I1, r1, q1⟩ => thn (hb pins s1 σ H1 _ I1 q1) fun u s2 ⟨y, H2, I2, r2, q2⟩ =>
    thn (ho pins s2 σ H2 x y v u _ I2 r1 r2 q2) fun c s3 ⟨z, H3, I3, r3, k, e, q3⟩ => ?_) hm
  subst e
  cases r3
  exact wpAny_truthy_bool ⟨H3, I3, q3⟩
noncomputable def tChain (r r' : R2) (ta tb tc : TE) : TE := fun σ H Q => ta σ H fun x H1 => tb σ H1 fun y H2 => r x y H2 fun z H3 => ∃ k, z = .bl k ∧
  (if k = true then tc σ H3 fun w' H4 => r' y w' H4 Q else Q (.bl false) H3)
theorem pe_chain {op op' : CmpOp} {r r' : R2} (ho : OpR X (compareOp op) r) (ho' : OpR X (compareOp op') r') (ha : PE X a ta) (hb : PE X b tb) (hc : PE X c tc)
    (hm : lastMarks [op, op'] [b, c] = false := by with_unfolding_all rfl) : PE X (.Compare a [op, op'] [b, c] pos) (tChain r r' ta tb tc) := by
  intro pins s σ H Q I h
  refine Compare_chain (thn (ha pins s σ H _ I h) fun v s1 ⟨x, H1, I1, r1, q1⟩ => chain_link (thn (hb pins s1 σ H1 _ I1 q1) fun u s2 ⟨y, H2, I2, r2, q2⟩ =>
    thn (ho pins s2 σ H2 x y v u _ I2 r1 r2 q2) fun d s3 ⟨z, H3, I3, r3, k, e, q3⟩ => ?_)) hm
  subst e
  cases r3
  refine wpAny_truthy_bool ?_
  cases k with
  | false => exact ite_ff ⟨.bl false, H3, I3, rfl, q3⟩
  | true => exact ite_tt (chain_last (thn (hc pins s3 σ H3 _ I3 q3) fun w' s4 ⟨z', H4, I4, r4, q4⟩ => ho' pins s4 σ H4 y z' u w' Q I4 r2 r4 q4))

noncomputable def TruV (K : PySem.W.Frag) (x : V) (H : Hp) (k : Bool) : Prop :=
  match x with
  | .non => k = false
  | .bl b => k = b
  | .int i => k = (i != 0)
  | .str y => y.length ≤ sizeLine ∧ k = ((y.length : Int) != 0)
  | .byt y => y.size ≤ sizeLine ∧ k = ((y.size : Int) != 0)
  | .ref p => (∃ xs, SqL K H p xs ∧ k = !xs.isEmpty) ∨ (∃ xs, SqT K H p xs ∧ k = !xs.isEmpty) ∨ ∃ kvs, H p = some (.dK kvs) ∧ k = !kvs.isEmpty
  | _ => False
theorem isEmpty_kv {κ : Type} {kvs : List (κ × V)} {vs : List (κ × Value)} (r : KV kvs vs) : (!vs.isEmpty) = !kvs.isEmpty := by
  cases r <;> rfl
theorem isEmpty_of {xs : List V} {its : List Value} (r : Vals xs its) : (!its.toArray.isEmpty) = !xs.isEmpty := by
  cases r <;> simp
theorem line63 : (sizeLine : Nat) < 2 ^ 63 := by rw [sizeLine_eq]; decide
theorem tru_ok : TruR X (fun x H Q => ∃ k, TruV X.K x H k ∧ Q k H) := by
  intro pins s σ H x v Q I rx h
  obtain ⟨k, e, q⟩ := h
  have hl := line63
  have hs : sizeLine = 16777216 := sizeLine_eq
  cases x with
  | non =>
    cases rx
    have e' : k = false := e
    subst e'
    exact truthy_none ⟨H, I, q⟩
  | bl b =>
    cases rx
    have e' : k = b := e
    subst e'
    exact wpAny_truthy_bool ⟨H, I, q⟩
  | int i =>
    obtain ⟨t, rfl⟩ := rx
    have e' : k = (i != 0) := e
    subst e'
    exact PySem.P.truthy_int ⟨H, I, q⟩
  | str y =>
    obtain ⟨t, rfl⟩ := rx
    obtain ⟨hy, e'⟩ : y.length ≤ sizeLine ∧ k = ((y.length : Int) != 0) := e
    subst e'
    exact PySem.P.truthy_str (by omega) ⟨H, I.tok _, q⟩
  | byt y =>
    obtain ⟨t, rfl⟩ := rx
    obtain ⟨hy, e'⟩ : y.size ≤ sizeLine ∧ k = ((y.size : Int) != 0) := e
    subst e'
    exact PySem.W.truthy_bytes (by omega) ⟨H, I.tok _, q⟩
  | ref p =>
    cases rx
    have e' : (∃ xs, SqL X.K H p xs ∧ k = !xs.isEmpty) ∨ (∃ xs, SqT X.K H p xs ∧ k = !xs.isEmpty) ∨ ∃ kvs, H p = some (.dK kvs) ∧ k = !kvs.isEmpty := e
    rcases e' with ⟨xs, hx, e'⟩ | ⟨xs, hx, e'⟩ | ⟨kvs, hx, e'⟩
    · subst e'
      obtain ⟨its, r, pl, hz⟩ := I.list hx
      have hlen := r.length
      exact wpAny_truthy_list pl.isList (by simp only [List.size_toArray]; omega) ⟨H, I.tok _, by rw [isEmpty_of r]; exact q⟩
    · subst e'
      obtain ⟨its, r, pl, hz⟩ := I.tuple hx
      have hlen := r.length
      exact truthy_tuple pl (by simp only [List.size_toArray]; omega) ⟨H, I.tok _, by rw [isEmpty_of r]; exact q⟩
    · subst e'
      obtain ⟨hz, hS, vs, r, m⟩ : kvs.length ≤ sizeLine ∧ (p == sysModules) = false ∧ ∃ vs, KV kvs vs ∧ s.heap.DictOf (mixKind X.prog X.w) p vs := I.hok p _ hx
      have hlen : kvs.length = vs.length := Paired.length r
      exact wpAny_truthy_dict hS m (by omega) ⟨H, I.tok _, by rw [isEmpty_kv r]; exact q⟩
  | _ => exact (show False from e).elim

theorem op_add_str : OpR X (binaryOp .Add) (fun x y H Q => ∃ i j, x = .str i ∧ y = .str j ∧ i.length + j.length ≤ sizeLine ∧ Q (.str (i ++ j)) H) := by
  intro pins s σ H x y v u Q I rx ry h
  obtain ⟨i, j, rfl, rfl, hz, q⟩ := h
  obtain ⟨t, rfl⟩ := rx
  obtain ⟨t', rfl⟩ := ry
  exact add_str (fun t' tk => ⟨.str (i ++ j), H, I.tok _, ⟨_, rfl⟩, q⟩) hz

theorem vals1 {x : V} {us : List Value} (r : Vals [x] us) : ∃ u, us = [u] ∧ RelV x u := by
  cases r with
  | cons r1 r2 => cases r2; exact ⟨_, rfl, r1⟩
theorem vals2 {x y : V} {us : List Value} (r : Vals [x, y] us) : ∃ u w', us = [u, w'] ∧ RelV x u ∧ RelV y w' := by
  cases r with
  | cons r1 r2 =>
    cases r2 with
    | cons r3 r4 => cases r4; exact ⟨_, _, rfl, r1, r3⟩
theorem call_min2 (hc : X.calm = true) : CallR X (.builtin "min") (fun xs H Q => ∃ i j, xs = [.int i, .int j] ∧ Q (.int (if j < i then j else i)) H) := by
  intro pins s σ H xs us Q I r h
  obtain ⟨i, j, rfl, q⟩ := h
  obtain ⟨u, w', rfl, ⟨t, rfl⟩, ⟨t', rfl⟩⟩ := vals2 r
  refine min_two_ints (I.ok.hd hc) fun h' tk k => ⟨_, H, I.kept k, ?_, q⟩
  by_cases hj : j < i
  · rw [if_pos hj, if_pos hj]; exact ⟨_, rfl⟩
  · rw [if_neg hj, if_neg hj]; exact ⟨_, rfl⟩
noncomputable def LenV (K : PySem.W.Frag) (x : V) (H : Hp) (n : Nat) : Prop :=
  match x with
  | .str y => y.length ≤ sizeLine ∧ n = y.length
  | .byt y => y.size ≤ sizeLine ∧ n = y.size
  | .ref p => (∃ xs, SqL K H p xs ∧ n = xs.length) ∨ ∃ xs, SqT K H p xs ∧ n = xs.length
  | _ => False
theorem call_len : CallR X (.builtin "len") (fun xs H Q => ∃ x n, xs = [x] ∧ LenV X.K x H n ∧ Q (.int n) H) := by
  intro pins s σ H xs us Q I r h
  obtain ⟨x, n, rfl, e, q⟩ := h
  obtain ⟨u, rfl, rx⟩ := vals1 r
  have hl := line63
  have hs : sizeLine = 16777216 := sizeLine_eq
  cases x with
  | str y =>
    obtain ⟨t, rfl⟩ := rx
    obtain ⟨hy, e'⟩ : y.length ≤ sizeLine ∧ n = y.length := e
    subst e'
    exact len_str (by omega) ⟨.int _, H, I.tok _, ⟨_, rfl⟩, q⟩
  | byt y =>
    obtain ⟨t, rfl⟩ := rx
    obtain ⟨hy, e'⟩ : y.size ≤ sizeLine ∧ n = y.size := e
    subst e'
    exact PySem.W.len_bytes (by omega) ⟨.int _, H, I.tok _, ⟨_, rfl⟩, q⟩
  | ref p =>
    cases rx
    have e' : (∃ xs, SqL X.K H p xs ∧ n = xs.length) ∨ ∃ xs, SqT X.K H p xs ∧ n = xs.length := e
    rcases e' with ⟨xs, hx, e'⟩ | ⟨xs, hx, e'⟩
    · subst e'
      obtain ⟨its, r', pl, hz⟩ := I.list hx
      have hlen := r'.length
      exact Calls.call_len_list pl.isList (by simp only [List.size_toArray]; omega) ⟨.int xs.length, H, I.tok _, ⟨_, by simp only [List.size_toArray]; rw [hlen]⟩, q⟩
    · subst e'
      obtain ⟨its, r', pl, hz⟩ := I.tuple hx
      have hlen := r'.length
      exact len_tuple pl (by simp only [List.size_toArray]; omega) ⟨.int xs.length, H, I.tok _, ⟨_, by simp only [List.size_toArray]; rw [hlen]⟩, q⟩
  | _ => exact (show False from e).elim
end
end L2

namespace L2
open PySem PySem.Spec PyProof.Rows

structure ObjM (h : Heap) (x dx C : Addr) (mA : Str → Option Value) : Prop where
  obj : h.get? x = some (PySem.W.instObj C dx)
  ns : h.Ns1 dx mA
  ne : dx ≠ x

theorem lookIn_ns {h : Heap} {dx : Addr} {mA : Str → Option Value} (n : h.Ns1 dx mA) : ∃ od, h.get? dx = some od ∧ ∀ name, PySem.W.lookIn name od = some (mA name) := by
  obtain ⟨o, es, ep, ho, hd, hk, _, hm⟩ := n
  refine ⟨o, ho, fun name => ?_⟩
  have e := hm name
  unfold nsFind findBy at e
  rw [← Array.find?_toList] at e
  unfold PySem.W.lookIn
  rw [hd]
  dsimp only
  split
  · rename_i y q
    rw [q] at e
    exact congrArg some e
  · rename_i q
    rw [q] at e
    have a : es.toList.any (·.refKey) = false := by
      rw [List.any_eq_false]
      intro y hy
      obtain ⟨z, t, hkey⟩ := hk y (Array.mem_toList_iff.mp hy)
      simp [DictEntry.refKey, hkey]
    have a' : ¬ es.toList.any (·.refKey) = true := by rw [a]; exact Bool.false_ne_true
    rw [if_neg a']
    exact congrArg some e

theorem ObjM.look {h : Heap} {x dx C : Addr} {mA : Str → Option Value} (I : ObjM h x dx C mA) : ∃ od, PySem.W.InstAt h x (PySem.W.instObj C dx) C (some od) ∧ ∀ name, PySem.W.lookIn name od = some (mA name) :=
  let ⟨od, ho, hl⟩ := lookIn_ns I.ns
  ⟨od, ⟨I.obj, rfl, rfl, ho⟩, hl⟩

section
variable {prog : Program} {w : World} {A : Around} {E : Value → Shared → Prop} {s : Shared} {K : PySem.W.Frag} {x dx C f : Addr} {mA : Str → Option Value} {name : Str} {v : Value}

end

noncomputable def putF (f : Str) (v : V) : List (Str × V) → List (Str × V)
  | [] => [(f, v)]
  | (g, x) :: r => if g = f then (g, v) :: r else (g, x) :: putF f v r

theorem RelO.some_of {v : V} {o : Option Value} (r : RelO (some v) o) : ∃ u, o = some u ∧ RelV v u := by
  cases o with
  | none => exact (show False from r).elim
  | some u => exact ⟨u, rfl, r⟩

section
variable {P : Program} {w : World} {H H' : Hp} {h h' : Heap} {a C dx : Addr} {fs fs' : List (Str × V)}
theorem ins_get (hok : HOk P w H h) (e : H a = some (.ins C dx fs)) : ∃ mA, ObjM h a dx C mA ∧ (∀ f, RelO (fs.lookup f) (mA f)) ∧ PySem.Within mA (fs.map (·.1)) ∧ fs.length ≤ 1000 ∧ H dx = some (.own a) := by
  obtain ⟨d, z, ne, ob, mA, n, r, q⟩ := (show ObjOk P w H h a (.ins C dx fs) from hok a _ e)
  exact ⟨mA, ⟨ob, n, ne⟩, r, q, z, d⟩
end

structure Cls (K : PySem.W.Frag) (C : Addr) : Prop where
  pg : PySem.W.plainGet K C Str.empty = true
  hd : PySem.W.hasDictIn K C = true
  po : PySem.W.plainOver K C = true
  sa : PySem.W.findIn K (.ref C) "__setattr__" = some (some (.builtin "object.__setattr__"))
theorem Cls.get {K : PySem.W.Frag} {C : Addr} (c : Cls K C) (f : Str) : PySem.W.plainGet K C f = true := c.pg
structure Con (K : PySem.W.Frag) (C : Addr) (f : Str) (v : V) (u : Value) : Prop where
  at_ : PySem.W.findIn K (.ref C) f = some (some u)
  rel : RelV v u
  get : PySem.W.specialIn K u "__get__" = some none
  cp : PySem.W.copiedNames.contains f = false
structure Meth (K : PySem.W.Frag) (C : Addr) (m : Str) (f : Addr) : Prop where
  at_ : PySem.W.findIn K (.ref C) m = some (some (.ref f))
  fn : PySem.W.isFn K (.ref f) = true
  kp : PySem.W.keepIn K (.ref f) = true

section
variable {X : Cx} {pins : List (Addr × Obj)} {σ : St} {H : Hp} {s : Shared} {a C dx : Addr} {fs : List (Str × V)} {f : Str} {v : V} {A : Around} {E : Value → Shared → Prop}

end

section
variable {X : Cx} {o e value : Expr} {f : Str} {pos pos' tpos : Pos} {ta tv : TE}

end

section
variable {X : Cx} {pins : List (Addr × Obj)} {σ : St} {H : Hp} {s : Shared} {A : Around} {E : Value → Shared → Prop} {Q : Value → Shared → Prop} {c : Value} {b : Bool}
inductive TyOf (K : PySem.W.Frag) (H : Hp) : V → Value → Prop where
  | non : TyOf K H .non (.type "NoneType")
  | bl (x : Bool) : TyOf K H (.bl x) (.type "bool")
  | int (i : Int) : TyOf K H (.int i) (.type "int")
  | str (x : Str) : TyOf K H (.str x) (.type "str")
  | flt (x : UInt64) : TyOf K H (.flt x) (.type "float")
  | lst {a : Addr} {xs : List V} (e : H a = some (.lst xs)) : TyOf K H (.ref a) (.type "list")
  | frz {a : Addr} {o : Obj} {xs : List V} (e : H a = some (.frz o (.lst xs))) : TyOf K H (.ref a) (.type "list")
  | tup {a : Addr} {xs : List V} (e : H a = some (.tup xs)) : TyOf K H (.ref a) (.type "tuple")
  | dK {a : Addr} {kvs : List (Key × V)} (e : H a = some (.dK kvs)) : TyOf K H (.ref a) (.type "dict")
  | dT {a : Addr} {kvs : List (List Key × V)} (e : H a = some (.dT kvs)) : TyOf K H (.ref a) (.type "dict")
  | ins {a C dx : Addr} {fs : List (Str × V)} (e : H a = some (.ins C dx fs)) (cl : Cls K C) (ha : PySem.W.findIn K (.ref C) "__class__" = some (some (.builtin "object.__class__")))
      (hn : PySem.W.specialIn K (.builtin "object.__class__") "__get__" = some (some (.builtin "getset_descriptor.__get__"))) (htk : PySem.W.takesIn K (.builtin "object.__class__") = some true)
      (hm : PySem.W.mroIn K C (.type "object") = some true) : TyOf K H (.ref a) (.ref C)
theorem isinst_ok {x : V} {u t : Value} (I : Inv X pins σ H s) (rx : RelV x u) (ty : TyOf X.K H x t) (e : PySem.W.kitOne X.K t c = some b) (h : ∀ tk, Q (.bool b) { s with toks := tk }) :
    wpAny (model X.prog X.w) A (call (.builtin "isinstance") [u, c]) Q E s := by
  cases ty with
  | non => cases (show u = Value.none from rx); exact PySem.W.kia_one PySem.W.kitx_none I.kIn True.intro e (fun z => nomatch z) h
  | bl y => cases (show u = Value.bool y from rx); exact PySem.W.kia_one PySem.W.kitx_bool I.kIn True.intro e (fun z => nomatch z) h
  | int i => obtain ⟨t, q⟩ := (show ∃ t, u = Value.int i t from rx); cases q; exact PySem.W.kia_one PySem.W.kitx_int I.kIn True.intro e (fun z => nomatch z) h
  | str y => obtain ⟨t, q⟩ := (show ∃ t, u = Value.str y t from rx); cases q; exact PySem.W.kia_one PySem.W.kitx_str I.kIn True.intro e (fun z => nomatch z) h
  | flt y => obtain ⟨t, q⟩ := (show ∃ t, u = Value.float y t from rx); cases q; exact PySem.W.kia_one PySem.W.kitx_float I.kIn True.intro e (fun z => nomatch z) h
  | @lst a xs ea =>
    cases (show u = Value.ref a from rx)
    obtain ⟨_, _, n, _, h1⟩ := (show ObjOk X.prog X.w H s.heap a (.lst xs) from I.hok a _ ea)
    exact PySem.W.kia_one PySem.W.kitx_list I.kIn ⟨_, h1, rfl⟩ e (fun z => nomatch z) h
  | @frz a ob xs ea =>
    cases (show u = Value.ref a from rx)
    obtain ⟨_, _, _, n, _, h1⟩ := (show ObjOk X.prog X.w H s.heap a (.frz ob (.lst xs)) from I.hok a _ ea)
    exact PySem.W.kia_one PySem.W.kitx_list I.kIn ⟨_, h1, rfl⟩ e (fun z => nomatch z) h
  | @tup a xs ea =>
    cases (show u = Value.ref a from rx)
    obtain ⟨_, _, _, p⟩ := (show ObjOk X.prog X.w H s.heap a (.tup xs) from I.hok a _ ea)
    obtain ⟨o, h1, h2, _⟩ := p
    exact PySem.W.kia_one PySem.W.kitx_tuple I.kIn ⟨o, h1, h2⟩ e (fun z => nomatch z) h
  | @dK a kvs ea =>
    cases (show u = Value.ref a from rx)
    obtain ⟨_, _, vs, _, p⟩ := (show ObjOk X.prog X.w H s.heap a (.dK kvs) from I.hok a _ ea)
    obtain ⟨o, es, ep, h1, h2, _⟩ := p
    exact PySem.W.kia_one PySem.W.kitx_dict I.kIn ⟨o, h1, h2.1⟩ e (fun z => nomatch z) h
  | @dT a kvs ea =>
    cases (show u = Value.ref a from rx)
    obtain ⟨_, _, xs, _, o, es, ep, h1, h2, _⟩ := (show ObjOk X.prog X.w H s.heap a (.dT kvs) from I.hok a _ ea)
    exact PySem.W.kia_one PySem.W.kitx_dict I.kIn ⟨o, h1, h2.1⟩ e (fun z => nomatch z) h
  | @ins a C dx fs ea cl ha hn htk hm =>
    cases (show u = Value.ref a from rx)
    obtain ⟨mA, O, _⟩ := ins_get I.hok ea
    obtain ⟨od, J, _⟩ := O.look
    exact PySem.W.kia_one (PySem.W.kitx_own (cl.get _) cl.hd ha hn htk hm) I.kIn J e (fun z => nomatch z) h
end
end L2

namespace L2
open PySem PySem.Spec PyProof.Rows

structure Room (k : Nat) (A : Around) : Prop where
  hd : A.handled = none
  dp : A.depth + 3 * k + 5 < recursionLimit
  un : A.units + 16 * k + 200 < cLine
theorem Room.mono {j k : Nat} {A : Around} (r : Room k A) (h : j ≤ k) : Room j A := ⟨r.hd, by have := r.dp; omega, by have := r.un; omega⟩
theorem Room.deeper {k : Nat} {A : Around} (r : Room (k + 1) A) (env : Env) : Room k (A.deeper env) :=
  ⟨r.hd, by have := r.dp; show A.depth + 1 + 3 * k + 5 < _; omega, by have := r.un; show A.units + 3 + 16 * k + 200 < _; omega⟩
theorem Room.depth {k : Nat} {A : Around} (r : Room k A) : A.depth < recursionLimit := by have := r.dp; omega
theorem Room.units {k : Nat} {A : Around} (r : Room k A) : A.units + 64 < cLine := by have := r.un; omega

noncomputable def tNil : TA := fun _ H Q => Q [] H
noncomputable def tCons (ta : TE) (tr : TA) : TA := fun σ H Q => ta σ H fun x H1 => tr σ H1 fun xs H2 => Q (x :: xs) H2
section
variable {X : Cx} {e : Expr} {es : List Expr} {te : TE} {t : TA} {pos : Pos}
theorem pa_nil : PA X [] tNil := fun _ _ _ _ H Q I h => Calls.spliced_nil ⟨[], H, I, .nil, h⟩
theorem pa_cons (ha : PE X e te) (hr : PA X es t) (hs : starEach (e :: es) X.env = (false, eval e X.env) :: starEach es X.env := by rfl) : PA X (e :: es) (tCons te t) := by
  intro pos pins s σ H Q I h
  rw [hs]
  show wpAny _ _ (spliced ((false, eval e X.env) :: backTo pos (starEach es X.env))) _ _ s
  refine Calls.spliced_cons (thn (ha pins s σ H _ I h) ?_)
  rintro u s1 ⟨x, H1, I1, r1, q1⟩
  exact thn (hr pos pins s1 σ H1 _ I1 q1) fun us s2 ⟨xs, H2, I2, r2, q2⟩ => ⟨x :: xs, H2, I2, .cons r1 r2, q2⟩

noncomputable def tTup (t : TA) : TE := fun σ H Q => t σ H fun xs H1 => xs.length ≤ sizeLine ∧ ∀ p, H1 p = none → Q (.ref p) (upd H1 p (.tup xs))
noncomputable def tLst (t : TA) : TE := fun σ H Q => t σ H fun xs H1 => xs.length ≤ sizeLine ∧ ∀ p, H1 p = none → Q (.ref p) (upd H1 p (.lst xs))
theorem pe_tup {x1} (h : PA X es t) : PE X (.Tuple es x1 pos) (tTup t) := by
  intro pins s σ H Q I hq
  refine wpAny_Tuple_spliced (thn (h pos pins s σ H _ I hq) fun us s1 ⟨xs, H1, I1, r, z, q⟩ => ⟨by rw [← r.length]; exact z, ?_⟩)
  have hf : H1 s1.heap.objs.size = none := I1.hok.fresh (Nat.le_refl _)
  refine ⟨.ref s1.heap.objs.size, upd H1 s1.heap.objs.size (.tup xs), I1.laid (t' := s1.toks) (fun b u e => Heap.get?_push_of_some _ e) (Nat.le_refl _) ?_, rfl, q _ hf⟩
  exact ⟨z, us, r, ⟨_, Heap.get?_push_size _ rfl, rfl, _, rfl⟩⟩
theorem pe_lst (h : PA X es t) : PE X (.List es pos) (tLst t) := by
  intro pins s σ H Q I hq
  refine wpAny_List_spliced (thn (h pos pins s σ H _ I hq) fun us s1 ⟨xs, H1, I1, r, z, q⟩ => ⟨by rw [← r.length]; exact z, ?_⟩)
  have hf : H1 s1.heap.objs.size = none := I1.hok.fresh (Nat.le_refl _)
  refine ⟨.ref s1.heap.objs.size, upd H1 s1.heap.objs.size (.lst xs), I1.laid (t' := s1.toks) (fun b u e => Heap.get?_push_of_some _ e) (Nat.le_refl _) ?_, rfl, q _ hf⟩
  exact ⟨z, us, 0, r, Heap.get?_push_size _ rfl⟩
end

noncomputable abbrev Sp := List V → Hp → VK → XK → Prop
noncomputable abbrev CXT := List Env → Hp → Shared → XK → Value → Shared → Prop

structure Env0 (P : Program) (w : World) (K : PySem.W.Frag) (mg : Str → Option Value) (base : Heap) (A : Around) (outer : List Env) (s : Shared) (H : Hp) : Prop where
  frames : A.frames = some outer
  mod : Mod K mg base
  bs : ∀ b o, base.get? b = some o → s.heap.get? b = some o ∧ H b = none
  bsz : base.objs.size ≤ s.heap.objs.size
  funs : s.heap.FunFrames base outer
  frf : ∀ b ∈ frs outer, H b = none
  hok : HOk P w H s.heap
  bare : AllBare s.gens
noncomputable def CE (outer : List Env) (P : Program) (w : World) (H : Hp) (s : Shared) (Q : VK) (u : Value) (s' : Shared) : Prop :=
  ∃ v H', s'.os = s.os ∧ AllBare s'.gens ∧ Un (frs outer) [] H H' s.heap s'.heap ∧ HOk P w H' s'.heap ∧ RelV v u ∧ Q v H'
noncomputable def CR (CX : CXT) (outer : List Env) (P : Program) (w : World) (H : Hp) (s : Shared) (Q : VK) (E : XK) (r : Result) (s' : Shared) : Prop :=
  match r with
  | .ok (.ret u) => CE outer P w H s Q u s'
  | .ok _ => False
  | .error e => CX outer H s E e s'
structure FnOk (P : Program) (w : World) (K : PySem.W.Frag) (mg : Str → Option Value) (base : Heap) (CX : CXT) (k : Nat) (f : Addr) (fd : FuncData) (ps : List Str) (sp : Sp) : Prop where
  len : ∀ vs H Q E, sp vs H Q E → vs.length = ps.length
  run : ∀ (A : Around) (outer : List Env) (s : Shared) (H : Hp) (args : Args) (us : List Value) (vs : List V) (Q : VK) (E : XK), Room k A → Env0 P w K mg base A outer s H → BindsTo s fd args (ps.zip us) → Vals vs us → sp vs H Q E →
    codeAny (model P w) A (.call (.ref f) args) (CR CX outer P w H s Q E) s

section
variable {X : Cx} {pins : List (Addr × Obj)} {σ : St} {H : Hp} {s s' : Shared}
theorem Inv.env0 (I : Inv X pins σ H s) : Env0 X.prog X.w X.K X.mg X.base X.A X.stack s H :=
  ⟨I.ok.frames, I.ok.mod, I.bs, Nat.le_trans I.ok.bsz I.sz, I.stack, I.stkFree, I.hok, I.bare⟩
theorem Inv.after {Q : VK} {u : Value} (I : Inv X pins σ H s) (h : CE X.stack X.prog X.w H s Q u s') : EP X pins σ Q u s' := by
  obtain ⟨v, H', os, bare, un, hok, r, q⟩ := h
  obtain ⟨hh, g, d, t, os'⟩ := s'
  obtain rfl : os' = s.os := os
  exact ⟨v, H', I.call (h' := hh) (g' := g) (d' := d) (t' := t) (ch := []) un hok bare (fun b z => absurd z (by simp)), r, q⟩
end

noncomputable def tCall (sp : Sp) (dvs : List V) (E : XK) (t : TA) : TE := fun σ H Q => t σ H fun vs H1 => sp (vs ++ dvs) H1 Q E

noncomputable def Binds (K : PySem.W.Frag) (fd : FuncData) (ps : List Str) (ds : List Value) : Prop :=
  ∀ (s : Shared) (us : List Value), K.In s.heap → (us ++ ds).length = ps.length → BindsTo s fd ⟨us, []⟩ (ps.zip (us ++ ds))
theorem Binds.all {K : PySem.W.Frag} {fd : FuncData} {ps : List Str} (h : ∀ us : List Value, us.length = ps.length → bindArgs fd ⟨us, []⟩ = pure (ps.zip us)) : Binds K fd ps [] := fun s us _ hl => by
  rw [List.append_nil] at hl ⊢
  exact .of_eq (h us hl)

noncomputable def Passes (CX : CXT) (X : Cx) (E : XK) : Prop := ∀ (pins : List (Addr × Obj)) (σ : St) (H : Hp) (s : Shared) (e : Value) (s' : Shared), Inv X pins σ H s → CX X.stack H s E e s' → X.xe e s'

section
variable {X : Cx} {CX : CXT} {k : Nat} {f C : Addr} {fd : FuncData} {ps : List Str} {sp : Sp} {dvs : List V} {ds : List Value} {E : XK} {x m : Str} {p pos apos : Pos} {e o : Expr} {es : List Expr} {ta : TE} {t : TA}

theorem run_fn {pins : List (Addr × Obj)} {σ : St} {H : Hp} {s : Shared} {Q : VK} {us : List Value} {vs : List V} (F : FnOk X.prog X.w X.K X.mg X.base CX k f fd ps sp) (hr : Room k X.A) (hb : Binds X.K fd ps ds) (hd : Vals dvs ds) (hx : Passes CX X E)
    (I : Inv X pins σ H s) (r : Vals vs us) (h : sp (vs ++ dvs) H Q E) : wpAny (model X.prog X.w) X.A (call (.ref f) us) (EP X pins σ Q) X.xe s := by
  have r2 : Vals (vs ++ dvs) (us ++ ds) := r.append hd
  have hl : (us ++ ds).length = ps.length := by rw [← r2.length]; exact F.len _ _ _ _ h
  refine wpAny_call (codeAny_mono (F.run X.A X.stack s H ⟨us, []⟩ (us ++ ds) (vs ++ dvs) Q E hr I.env0 (hb s us I.kIn hl) r2 h) fun r s' hq => ?_)
  cases r with
  | error e => exact hx pins σ H s e s' I hq
  | ok fl =>
    cases fl with
    | ret u => exact I.after hq
    | next => exact False.elim hq
    | brk => exact False.elim hq
    | cont => exact False.elim hq

theorem pe_call (F : FnOk X.prog X.w X.K X.mg X.base CX k f fd ps sp) (hr : Room k X.A) (hg : Gl X x) (hm : X.mg x = some (.ref f)) (hk : PySem.W.keepIn X.K (.ref f) = true) (hb : Binds X.K fd ps ds) (hd : Vals dvs ds) (hx : Passes CX X E)
    (ha : PA X (e :: es) t) (hdb : (x == ("__debug__" : Str)) = false := by decide) (he : starEach (e :: es) X.env = (false, eval e X.env) :: starEach es X.env := by rfl) (hpl : (backTo pos (starEach es X.env)).any (·.1) = false := by rfl) :
    PE X (.Call (.Name x p) (e :: es) [] pos) (tCall sp dvs E t) := by
  intro pins s σ H Q I h
  refine wpAny_Call_Name_kw (ld_glob I hg hm ?_ hdb)
  refine PySem.W.callWith_K (h₀ := X.base) I.ok.mod.kin hk (thn (ha pos pins s σ H _ I h) fun us s1 ⟨vs, H1, I1, r, q⟩ => ⟨I1.kIn, ?_⟩) he hpl
  exact run_fn F hr hb hd hx I1 r q

structure Mk (K : PySem.W.Frag) (C f : Addr) : Prop where
  makes : PySem.W.makesIn K C = true
  init : PySem.W.findIn K (.ref C) "__init__" = some (some (.ref f))
  fn : PySem.W.isFn K (.ref f) = true
  kp : PySem.W.keepIn K (.ref C) = true

end

section
variable {X : Cx} {CX : CXT} {k : Nat} {f C : Addr} {fd : FuncData} {ps ks : List Str} {sp : Sp} {E : XK} {x m : Str} {p pos apos kpos : Pos} {e o : Expr} {es : List Expr} {kws : List Keyword} {te ta : TE} {t tk : TA} {nm : Option Str}

structure KBinds (K : PySem.W.Frag) (fd : FuncData) (ps ks : List Str) (g : List Value → List Value → List Value) (gV : List V → List V → List V) : Prop where
  to : ∀ (s : Shared) (us ws : List Value), K.In s.heap → (g us ws).length = ps.length → BindsTo s fd ⟨us, ks.zip ws⟩ (ps.zip (g us ws))
  rel : ∀ {vs : List V} {us : List Value} {zs : List V} {ws : List Value}, Vals vs us → Vals zs ws → Vals (gV vs zs) (g us ws)
variable {g : List Value → List Value → List Value} {gV : List V → List V → List V}
end

structure FnScope (N P : List Str) (sc : Scope) : Prop where
  kind : sc.kind = .function
  co : sc.isCoroutine = false
  gen : sc.isGenerator = false
  nd : N.Nodup
  pre : N.take P.length = P
  par : ∀ x ∈ P, sc.names.lookup x = some .local ∨ sc.names.lookup x = some .cell
  nofree : ∀ y ∈ sc.names, y.2 ≠ .free

theorem bindL_out {kindOf : Str → Option NameKind} {x : Str} : ∀ {binds : List (Str × Value)} {m : Str → Option Value}, (∀ v, (x, v) ∉ binds) → bindL kindOf binds m x = m x
  | [], _, _ => rfl
  | (n, v) :: r, m, h => by
    unfold bindL
    rw [bindL_out fun w hw => h w (List.mem_cons_of_mem _ hw)]
    split
    · have : x ≠ n := by rintro rfl; exact h v List.mem_cons_self
      simp [this]
    · rfl
theorem bindC_out {kindOf : Str → Option NameKind} {x : Str} : ∀ {binds : List (Str × Value)} {m : Str → Option Value}, (∀ v, (x, v) ∉ binds) → bindC kindOf binds m x = m x
  | [], _, _ => rfl
  | (n, v) :: r, m, h => by
    unfold bindC
    rw [bindC_out fun w hw => h w (List.mem_cons_of_mem _ hw)]
    split
    · rfl
    · have : x ≠ n := by rintro rfl; exact h v List.mem_cons_self
      simp [this]
theorem bindL_get {kindOf : Str → Option NameKind} {x : Str} {v : Value} : ∀ {P : List Str} {vs : List Value} {i : Nat} {m : Str → Option Value}, P.Nodup → P[i]? = some x → vs[i]? = some v → kindOf x = some .local →
    bindL kindOf (P.zip vs) m x = some v
  | [], _, _, _, _, h, _, _ => by simp at h
  | _ :: _, [], _, _, _, _, h, _ => by simp at h
  | p :: P, w :: vs, 0, m, nd, h1, h2, hk => by
    simp at h1 h2; subst h1; subst h2
    show bindL kindOf ((p, w) :: P.zip vs) m p = _
    unfold bindL
    rw [bindL_out fun v hv => (List.nodup_cons.mp nd).1 (List.of_mem_zip hv).1, if_pos hk]
    simp
  | p :: P, w :: vs, i + 1, m, nd, h1, h2, hk => by
    show bindL kindOf ((p, w) :: P.zip vs) m x = _
    unfold bindL
    exact bindL_get (i := i) (List.nodup_cons.mp nd).2 (by simpa using h1) (by simpa using h2) hk
theorem bindC_get {kindOf : Str → Option NameKind} {x : Str} {v : Value} : ∀ {P : List Str} {vs : List Value} {i : Nat} {m : Str → Option Value}, P.Nodup → P[i]? = some x → vs[i]? = some v → kindOf x ≠ some .local →
    bindC kindOf (P.zip vs) m x = some v
  | [], _, _, _, _, h, _, _ => by simp at h
  | _ :: _, [], _, _, _, _, h, _ => by simp at h
  | p :: P, w :: vs, 0, m, nd, h1, h2, hk => by
    simp at h1 h2; subst h1; subst h2
    show bindC kindOf ((p, w) :: P.zip vs) m p = _
    unfold bindC
    rw [bindC_out fun v hv => (List.nodup_cons.mp nd).1 (List.of_mem_zip hv).1, if_neg hk]
    simp
  | p :: P, w :: vs, i + 1, m, nd, h1, h2, hk => by
    show bindC kindOf ((p, w) :: P.zip vs) m x = _
    unfold bindC
    exact bindC_get (i := i) (List.nodup_cons.mp nd).2 (by simpa using h1) (by simpa using h2) hk

noncomputable def start (N : List Str) (vs : List V) : St := vs.map some ++ List.replicate (N.length - vs.length) none

noncomputable def cxOf (CX : CXT) (P : Program) (w : World) (K : PySem.W.Frag) (mg : Str → Option Value) (base : Heap) (N : List Str) (qual : Str) (scope : Scope) (f : Addr) (cd : Value) (A : Around) (outer : List Env) (s : Shared) (H : Hp) (E : XK) : Cx where
  prog := P
  w := w
  K := K
  mg := mg
  base := base
  A := A.deeper (envOfC qual scope s.heap.objs.size f cd)
  N := N
  s₀ := s
  H₀ := H
  env := envOfC qual scope s.heap.objs.size f cd
  outer := outer
  stack := envOfC qual scope s.heap.objs.size f cd :: outer
  ex := []
  calm := true
  fn := fun _ => true
  pn := []
  xe := fun e s' => wpAny (model P w) (A.deeper (envOfC qual scope s.heap.objs.size f cd)) (leaving (envOfC qual scope s.heap.objs.size f cd) e) (fun _ s'' => CX outer H s E e s'') (fun e' s'' => CX outer H s E e' s'') s'

theorem cell_has {sc : Scope} {n : Nat} {x : Str} (h : sc.names.lookup x = some .cell) : ∃ c, (cellsFrom n sc.names []).lookup x = some c := by
  have q := PySem.W.cellsFrom_some sc.names n [] (.inl h)
  exact Option.isSome_iff_exists.mp q

theorem inv_start {CX : CXT} {P : Program} {w : World} {K : PySem.W.Frag} {mg : Str → Option Value} {base : Heap} {N ps : List Str} {qual : Str} {scope : Scope} {f : Addr} {cd : Value} {A : Around} {outer : List Env} {s s1 : Shared} {H : Hp} {E : XK} {us : List Value} {vs : List V}
    (S : FnScope N ps scope) (hd : A.handled = none) (e0 : Env0 P w K mg base A outer s H) (hl : vs.length = ps.length) (r : Vals vs us)
    (x : InCallC s s.heap.objs.size (bindL (envOfC qual scope s.heap.objs.size f cd).kindOf (ps.zip us) fun _ => none) (cellsFrom (s.heap.objs.size + 1) scope.names []) (bindC (envOfC qual scope s.heap.objs.size f cd).kindOf (ps.zip us) fun _ => none) s1) :
    Inv (cxOf CX P w K mg base N qual scope f cd A outer s H E) [] (start N vs) H s1 := by
  have hpl : ps.length ≤ N.length := by have := congrArg List.length S.pre; rw [List.length_take] at this; omega
  obtain ⟨h1, tk, rfl, hk⟩ := x.done
  have noA : ∀ b : Addr, b ∉ (cxOf CX P w K mg base N qual scope f cd A outer s H E).ex := fun b z => absurd (show b ∈ ([] : List Addr) from z) (by simp)
  refine ⟨⟨e0.mod, S.kind, rfl, rfl, Nat.le_refl _, fun y z c h1 h2 => ?_, fun y hy => ?_, fun y c _ h => ?_, fun _ => hd, Around.frames_deeper e0.frames, .inr ⟨rfl, rfl⟩, fun b z => absurd z (noA b), e0.bs, e0.bsz, fun b _ _ => noA b, fun b z => absurd z (noA b), e0.funs, e0.frf⟩,
    rfl, e0.bare, Un.kept hk, ⟨_, x.toInCall.ns, fun i y v h1 h2 h3 => ?_⟩, fun y c h => ⟨_, x.cell y c h⟩, e0.hok.fresh (Nat.le_refl _), fun y c h => ?_, fun p hp => absurd (show p ∈ ([] : List (Addr × Obj)) from hp) (by simp), e0.hok.kept hk, ?_⟩
  · exact name_of_addr x.apart (PySem.mem_of_lookup h1) (PySem.mem_of_lookup h2)
  · have hy : scope.names.lookup y = some .cell ∨ scope.names.lookup y = some .free := hy
    rcases hy with hy | hy
    · exact cell_has hy
    · exact absurd rfl (S.nofree _ (PySem.mem_of_lookup hy))
  · exact Nat.le_of_lt (x.above y c (PySem.mem_of_lookup h))
  · have hi : i < vs.length := by
      unfold start at h2
      by_cases hi : i < vs.length
      · exact hi
      · rw [List.getElem?_append_right (by simpa using hi)] at h2
        rw [List.getElem?_replicate] at h2
        split at h2 <;> cases h2
    have ha : vs[i]? = some v := by
      unfold start at h2
      rw [List.getElem?_append_left (by simpa using hi), List.getElem?_map] at h2
      cases e : vs[i]? with
      | none => rw [e] at h2; cases h2
      | some a => rw [e] at h2; cases h2; rfl
    obtain ⟨u, hu, rv⟩ := r.get ha
    have hp : ps[i]? = some y := by
      rw [← S.pre, List.getElem?_take_of_lt (by omega)]; exact h1
    have ndP : ps.Nodup := by rw [← S.pre]; exact S.nd.sublist (List.take_sublist _ _)
    refine ⟨u, rv, ?_⟩
    rcases S.par y (List.mem_of_getElem? hp) with k | k
    · exact .inl ⟨k, bindL_get ndP hp hu k⟩
    · obtain ⟨c, e⟩ := cell_has (n := s.heap.objs.size + 1) k
      refine .inr ⟨.inl k, c, e, ?_⟩
      have q := x.cell y c e
      rw [bindC_get ndP hp hu (by show scope.names.lookup y ≠ _; rw [k]; decide)] at q
      exact q
  · exact e0.hok.fresh (Nat.le_of_lt (x.above y c (PySem.mem_of_lookup h)))
  · unfold start
    show _ = N.length
    rw [List.length_append, List.length_map, List.length_replicate]
    omega

theorem fn_of {CX : CXT} {P : Program} {w : World} {K : PySem.W.Frag} {mg : Str → Option Value} {base : Heap} {k : Nat} {f : Addr} {name qual : Str} {params : Arguments} {body : List Stmt} {scope : Scope} {dV kV doc pm cdv ct oc : Value} {an od : Option Addr}
    {osl : Array (Option Value)} {N ps : List Str} {sp : Sp} (lk : K.lookup f = some ⟨oc, od, .func (PySem.W.fnOf name qual params body scope dV kV doc pm an cdv ct), osl⟩) (hcd : PySem.W.codeIn K cdv qual = true) (S : FnScope N ps scope)
    (len : ∀ vs H Q E, sp vs H Q E → vs.length = ps.length)
    (hbody : ∀ (A : Around) (outer : List Env) (s : Shared) (H : Hp) (vs : List V) (Q : VK) (E : XK), Room k (A.deeper (envOfC qual scope s.heap.objs.size f cdv)) → sp vs H Q E →
      ∃ t, PSs (cxOf CX P w K mg base N qual scope f cdv A outer s H E) body t ∧ t { nx := fun _ H' => Q .non H', rt := Q } (start N vs) H) :
    FnOk P w K mg base CX (k + 1) f (PySem.W.fnOf name qual params body scope dV kV doc pm an cdv ct) ps sp := by
  refine ⟨len, fun A outer s H args us vs Q E hr e0 hb r hsp => ?_⟩
  have hl := len _ _ _ _ hsp
  have KX : K.In s.heap := e0.mod.kin.keeps fun b o e => (e0.bs b o e).1
  have lim : s.heap.NoLimit := e0.mod.nolimit.keeps fun b o e => (e0.bs b o e).1
  have hkind : ∀ y ∈ ps.zip us, scope.names.lookup y.1 = some .local ∨ (scope.names.lookup y.1 = some .cell ∧ ((cellsFrom (s.heap.objs.size + 1) scope.names []).lookup y.1).isSome = true) := fun ⟨n, v⟩ hy => by
    rcases S.par n (List.of_mem_zip hy).1 with q | q
    · exact .inl q
    · exact .inr ⟨q, PySem.W.cellsFrom_some _ _ _ (.inl q)⟩
  refine codeAny_call_function hr.depth (KX _ _ lk) rfl S.co S.gen rfl (PySem.W.codeRec_of KX hcd) (hb _ _ _ _ ?_)
  refine wpAny_newFunctionEnv_cells S.kind hkind fun env he s1 x => ?_
  subst he
  refine ⟨lim.keeps x.toInCall.keep, codeAny_func ?_⟩
  obtain ⟨t, ht, hq⟩ := hbody A outer s H vs Q E (hr.deeper _) hsp
  have I : Inv (cxOf CX P w K mg base N qual scope f cdv A outer s H E) [] (start N vs) H s1 := inv_start S hr.hd e0 hl r x
  refine wpAny_mono (ht [] s1 (start N vs) H _ I hq) (fun fl s' hs => ?_) fun e s' hs => hs
  have fin : ∀ {σ' : St} {H' : Hp} {v : V} {u : Value}, Inv (cxOf CX P w K mg base N qual scope f cdv A outer s H E) [] σ' H' s' → RelV v u → Q v H' → CE outer P w H s Q u s' :=
    fun {σ' H' v u} J rv q => ⟨v, H', J.os, J.bare, J.base, J.hok, rv, q⟩
  cases fl with
  | ret u =>
    obtain ⟨v, σ', H', J, rv, q⟩ := hs
    exact fin J rv q
  | next =>
    obtain ⟨σ', H', J, q⟩ := hs
    exact fin (v := V.non) (u := Value.none) J rfl q
  | brk =>
    obtain ⟨_, _, _, q⟩ := hs
    exact False.elim q
  | cont =>
    obtain ⟨_, _, _, q⟩ := hs
    exact False.elim q
end L2

namespace L2
open PySem PySem.Spec PyProof.Rows
section
variable {X : Cx} {x : Str} {p pos : Pos} {e : Expr} {es : List Expr} {t : TA} {id T : String} {r : List V → Hp → VK → Prop}

noncomputable def tCB (r : List V → Hp → VK → Prop) (t : TA) : TE := fun σ H Q => t σ H fun vs H1 => r vs H1 Q
theorem pe_callB (hc : CallR X (.builtin id) r) (hg : Gl X x) (hm : X.mg x = none) (hv : bootBuiltins x = some (.builtin id)) (ha : PA X (e :: es) t) (hn : x ≠ "__name__" := by decide) (hdb : (x == ("__debug__" : Str)) = false := by decide)
    (he : starEach (e :: es) X.env = (false, eval e X.env) :: starEach es X.env := by rfl) (hpl : (backTo pos (starEach es X.env)).any (·.1) = false := by rfl) : PE X (.Call (.Name x p) (e :: es) [] pos) (tCB r t) := by
  intro pins s σ H Q I h
  refine wpAny_Call_Name_kw (ld_blt I hg hm hv ?_ hn hdb)
  exact PyProof.Rows.callWith_builtin1 (thn (ha pos pins s σ H _ I h) fun us s1 ⟨vs, H1, I1, r1, q1⟩ => hc pins s1 σ H1 vs us Q I1 r1 q1) he hpl
theorem pe_callTy (hc : CallR X (.type T) r) (hg : Gl X x) (hm : X.mg x = none) (hv : bootBuiltins x = some (.type T)) (ha : PA X (e :: es) t) (hn : x ≠ "__name__" := by decide) (hdb : (x == ("__debug__" : Str)) = false := by decide)
    (he : starEach (e :: es) X.env = (false, eval e X.env) :: starEach es X.env := by rfl) (hpl : (backTo pos (starEach es X.env)).any (·.1) = false := by rfl) : PE X (.Call (.Name x p) (e :: es) [] pos) (tCB r t) := by
  intro pins s σ H Q I h
  refine wpAny_Call_Name_kw (ld_blt I hg hm hv ?_ hn hdb)
  exact PyProof.Rows.callWith_type1 (thn (ha pos pins s σ H _ I h) fun us s1 ⟨vs, H1, I1, r1, q1⟩ => hc pins s1 σ H1 vs us Q I1 r1 q1) he hpl
end
end L2
namespace L2
open PySem PySem.Spec PyProof.Rows

section
variable {κ : Type} [DecidableEq κ]
noncomputable def valV (kvs : List (κ × V)) (k : κ) : Option V := (kvs.find? fun kv => decide (kv.1 = k)).map (·.2)
noncomputable def putK (kvs : List (κ × V)) (k : κ) (v : V) : List (κ × V) :=
  if (kvs.any fun kv => decide (kv.1 = k)) = true then kvs.map (fun kv => if kv.1 = k then (kv.1, v) else kv) else kvs ++ [(k, v)]

theorem valV_pos {p : κ × V} {r : List (κ × V)} {k : κ} (e : p.1 = k) : valV (p :: r) k = some p.2 := by simp [valV, List.find?_cons, e]
theorem valV_neg {p : κ × V} {r : List (κ × V)} {k : κ} (e : ¬ p.1 = k) : valV (p :: r) k = valV r k := by simp [valV, List.find?_cons, e]
theorem valV_any (k : κ) : ∀ kvs : List (κ × V), (kvs.any fun kv => decide (kv.1 = k)) = (valV kvs k).isSome
  | [] => rfl
  | p :: r => by
    rw [List.any_cons]
    by_cases e : p.1 = k
    · simp only [valV_pos e, decide_eq_true e, Bool.true_or, Option.isSome_some]
    · rw [valV_neg e, decide_eq_false e, Bool.false_or]; exact valV_any k r
theorem length_putK (kvs : List (κ × V)) (k : κ) (v : V) : (putK kvs k v).length ≤ kvs.length + 1 := by
  unfold putK
  split
  · rw [List.length_map]; omega
  · rw [List.length_append, List.length_cons, List.length_nil]; omega

theorem RelO.isSome_eq {o : Option V} {u : Option Value} (r : RelO o u) : o.isSome = u.isSome := by
  cases o with
  | none => cases u with
    | none => rfl
    | some _ => exact (show False from r).elim
  | some _ => cases u with
    | none => exact (show False from r).elim
    | some _ => rfl

theorem KV.val {kvs : List (κ × V)} {vs : List (κ × Value)} (r : KV kvs vs) (k : κ) : RelO (valV kvs k) (valueAt vs k) := by
  unfold KV at r
  induction r with
  | nil => exact True.intro
  | @cons p q ps qs h t ih =>
    obtain ⟨h1, h2⟩ := h
    by_cases e : p.1 = k
    · have e' : q.1 = k := h1.symm.trans e
      have b : valueAt (q :: qs) k = some q.2 := by simp [valueAt, List.find?_cons, e']
      rw [valV_pos e, b]; exact h2
    · have e' : ¬ q.1 = k := fun z => e (h1.trans z)
      have b : valueAt (q :: qs) k = valueAt qs k := by simp [valueAt, List.find?_cons, e']
      rw [valV_neg e, b]; exact ih
theorem KV.any {kvs : List (κ × V)} {vs : List (κ × Value)} (r : KV kvs vs) (k : κ) : (kvs.any fun kv => decide (kv.1 = k)) = vs.any fun kv => decide (kv.1 = k) := by
  unfold KV at r
  induction r with
  | nil => rfl
  | cons h t ih => rw [List.any_cons, List.any_cons, ih, h.1]
theorem KV.repl {kvs : List (κ × V)} {vs : List (κ × Value)} (r : KV kvs vs) (k : κ) {y : V} {u : Value} (ry : RelV y u) :
    KV (kvs.map fun kv => if kv.1 = k then (kv.1, y) else kv) (vs.map fun kv => if kv.1 = k then (kv.1, u) else kv) := by
  unfold KV at r ⊢
  induction r with
  | nil => exact .nil
  | @cons p q ps qs h t ih =>
    rw [List.map_cons, List.map_cons]
    refine .cons ?_ ih
    obtain ⟨h1, h2⟩ := h
    by_cases e : p.1 = k
    · rw [if_pos e, if_pos (h1.symm.trans e)]; exact ⟨h1, ry⟩
    · rw [if_neg e, if_neg (fun z => e (h1.trans z))]; exact ⟨h1, h2⟩
theorem KV.put {kvs : List (κ × V)} {vs : List (κ × Value)} (r : KV kvs vs) (k : κ) {y : V} {u : Value} (ry : RelV y u) : KV (putK kvs k y) (stored vs k u) := by
  unfold putK stored
  rw [r.any k]
  by_cases e : (vs.any fun kv => decide (kv.1 = k)) = true
  · rw [if_pos e, if_pos e]; exact r.repl k ry
  · rw [if_neg e, if_neg e]; exact Paired.snoc r ⟨rfl, ry⟩
theorem KV.length {kvs : List (κ × V)} {vs : List (κ × Value)} (r : KV kvs vs) : kvs.length = vs.length := Paired.length r
end

theorem kV_is {P : Program} {w : World} {k : Key} {u : Value} (r : RelV (kV k) u) : (mixKind P w).is k u = true := by
  cases k with
  | inl i => obtain ⟨t, e⟩ := (show ∃ t, u = Value.int i t from r); subst e; exact mixKind_int P w i t
  | inr x => obtain ⟨t, e⟩ := (show ∃ t, u = Value.str x t from r); subst e; exact mixKind_str P w x t
theorem items_are {P : Program} {w : World} : ∀ {ks : List Key} {us : List Value}, Vals (ks.map kV) us → ItemsAre (mixKind P w) ks us
  | [], _, r => by rw [List.map_nil] at r; cases r; exact .nil
  | k :: ks, _, r => by
    rw [List.map_cons] at r
    cases r with
    | cons h t => exact .cons (kV_is h) (items_are t)

noncomputable abbrev KT (H : Hp) : List (List Key × V) → List (List Key × Addr × Value) → Prop := Paired fun p q => p.1 = q.1 ∧ H q.2.1 = some (.tup (p.1.map kV)) ∧ RelV p.2 q.2.2
theorem KT.val {H : Hp} {kvs : List (List Key × V)} {xs : List (List Key × Addr × Value)} (r : KT H kvs xs) (k : List Key) : RelO (valV kvs k) ((atKey xs k).map (·.2)) := by
  induction r with
  | nil => exact True.intro
  | @cons p q ps qs h t ih =>
    obtain ⟨h1, _, h2⟩ := h
    by_cases e : p.1 = k
    · have e' : q.1 = k := h1.symm.trans e
      have b : atKey (q :: qs) k = some q.2 := by simp [atKey, List.find?_cons, e']
      rw [valV_pos e, b]; exact h2
    · have e' : ¬ q.1 = k := fun z => e (h1.trans z)
      have b : atKey (q :: qs) k = atKey qs k := by simp [atKey, List.find?_cons, e']
      rw [valV_neg e, b]; exact ih
theorem KT.repl {H : Hp} {kvs : List (List Key × V)} {xs : List (List Key × Addr × Value)} (r : KT H kvs xs) (k : List Key) {y : V} {u : Value} (ry : RelV y u) :
    KT H (kvs.map fun kv => if kv.1 = k then (kv.1, y) else kv) (xs.map (putAt k u)) := by
  induction r with
  | nil => exact .nil
  | @cons p q ps qs h t ih =>
    rw [List.map_cons, List.map_cons]
    refine .cons ?_ ih
    obtain ⟨h1, h2, h3⟩ := h
    unfold putAt
    by_cases e : p.1 = k
    · rw [if_pos e, if_pos (h1.symm.trans e)]; exact ⟨h1, h2, ry⟩
    · rw [if_neg e, if_neg (fun z => e (h1.trans z))]; exact ⟨h1, h2, h3⟩
theorem KT.put {H : Hp} {kvs : List (List Key × V)} {xs : List (List Key × Addr × Value)} (r : KT H kvs xs) (k : List Key) {b : Addr} {y : V} {u : Value} (hb : H b = some (.tup (k.map kV))) (ry : RelV y u) :
    KT H (putK kvs k y) (storedH xs k b u) := by
  have e : (kvs.any fun kv => decide (kv.1 = k)) = (atKey xs k).isSome := by
    rw [valV_any, (r.val k).isSome_eq, Option.isSome_map]
  unfold putK storedH
  rw [e]
  by_cases q : (atKey xs k).isSome = true
  · rw [if_pos q, if_pos q]; exact r.repl k ry
  · rw [if_neg q, if_neg q]; exact Paired.snoc r ⟨rfl, hb, ry⟩
theorem KT.keeps {H H' : Hp} {kvs : List (List Key × V)} {xs : List (List Key × Addr × Value)} (r : KT H kvs xs) (ht : ∀ b ys, H b = some (.tup ys) → H' b = some (.tup ys)) : KT H' kvs xs :=
  Paired.mapP r fun _ _ z => ⟨z.1, ht _ _ z.2.1, z.2.2⟩

section
variable {P : Program} {w : World} {H : Hp} {h : Heap} {a : Addr}
theorem rd_of {u : HO} (ok : HOk P w H h) (e : Rd H a u) : ObjOk P w H h a u := e.ok ok
theorem dk_rd {kvs : List (Key × V)} (ok : HOk P w H h) (e : Rd H a (.dK kvs)) : kvs.length ≤ sizeLine ∧ (a == sysModules) = false ∧ ∃ vs, KV kvs vs ∧ h.DictOf (mixKind P w) a vs :=
  show ObjOk P w H h a (.dK kvs) from rd_of ok e
theorem dk_of {kvs : List (Key × V)} (ok : HOk P w H h) (e : H a = some (.dK kvs)) : kvs.length ≤ sizeLine ∧ (a == sysModules) = false ∧ ∃ vs, KV kvs vs ∧ h.DictOf (mixKind P w) a vs := dk_rd ok (.inl e)
theorem key_of {ks : List Key} (ok : HOk P w H h) (e : H a = some (.tup (ks.map kV))) : (tupleKind (mixKind P w)).is h ks a := by
  obtain ⟨_, its, r, o, h1, h2, n, h3⟩ := (show ObjOk P w H h a (.tup (ks.map kV)) from ok a _ e)
  exact ⟨o, its.toArray, n, h1, h2, h3, by simpa using items_are r⟩
theorem dt_rd {kvs : List (List Key × V)} (ok : HOk P w H h) (e : Rd H a (.dT kvs)) : kvs.length ≤ sizeLine ∧ (a == sysModules) = false ∧
    ∃ xs, KT H kvs xs ∧ h.DictOfH (tupleKind (mixKind P w)) a xs := by
  obtain ⟨z, y, xs, r, o, es, ep, h1, h2, h3, h4, h5⟩ := (show ObjOk P w H h a (.dT kvs) from rd_of ok e)
  refine ⟨z, y, xs, r, o, es, ep, h1, h2, h3, h4, fun x hx => ?_, h5⟩
  have all : ∀ {l : List (List Key × V)} {m : List (List Key × Addr × Value)}, KT H l m → ∀ x ∈ m, (tupleKind (mixKind P w)).is h x.1 x.2.1 := by
    intro l m q
    induction q with
    | nil => intro x hx; exact nomatch hx
    | @cons p q ps qs hq t ih =>
      intro x hx
      rcases List.mem_cons.mp hx with e | hx
      · subst e
        exact key_of ok (by rw [← hq.1]; exact hq.2.1)
      · exact ih x hx
  exact all r x hx
theorem dt_of {kvs : List (List Key × V)} (ok : HOk P w H h) (e : H a = some (.dT kvs)) : kvs.length ≤ sizeLine ∧ (a == sysModules) = false ∧
    ∃ xs, KT H kvs xs ∧ h.DictOfH (tupleKind (mixKind P w)) a xs := dt_rd ok (.inl e)
end

noncomputable def DGet (H : Hp) (a : Addr) (y : V) (r : Option V) : Prop :=
  (∃ kvs k, Rd H a (.dK kvs) ∧ y = kV k ∧ r = valV kvs k) ∨ ∃ kvs k b, Rd H a (.dT kvs) ∧ y = .ref b ∧ H b = some (.tup (k.map kV)) ∧ r = valV kvs k
noncomputable def DPut (H : Hp) (a : Addr) (y v : V) (H' : Hp) : Prop :=
  (∃ kvs k, H a = some (.dK kvs) ∧ y = kV k ∧ kvs.length < sizeLine ∧ H' = upd H a (.dK (putK kvs k v))) ∨
  ∃ kvs k b, H a = some (.dT kvs) ∧ y = .ref b ∧ H b = some (.tup (k.map kV)) ∧ kvs.length < sizeLine ∧ H' = upd H a (.dT (putK kvs k v))
theorem DPut.t {H : Hp} {a b : Addr} {kvs : List (List Key × V)} {k : List Key} {v : V} (e : H a = some (.dT kvs)) (eb : H b = some (.tup (k.map kV))) (hl : kvs.length < sizeLine) :
    DPut H a (.ref b) v (upd H a (.dT (putK kvs k v))) := .inr ⟨kvs, k, b, e, rfl, eb, hl, rfl⟩

section
variable {X : Cx} {pins : List (Addr × Obj)} {σ : St} {H : Hp} {s : Shared} {a : Addr} {y v : V} {u r : Value} {o : Option V} {A : Around} {E : Value → Shared → Prop}

theorem Inv.big (I : Inv X pins σ H s) : sysModules < s.heap.objs.size := by
  have h : mainGlobals < s.heap.objs.size := (I.mod.glob.keeps I.bk).lt
  exact Nat.lt_trans (by decide) h

theorem d_getItem {Q : Value → Shared → Prop} (hu : A.units + 1 < cLine) (I : Inv X pins σ H s) (g : DGet H a y (some v)) (ry : RelV y u) (h : ∀ w' s', Inv X pins σ H s' → RelV v w' → Q w' s') :
    wpAny (model X.prog X.w) A (getItem (.ref a) u) Q E s := by
  rcases g with ⟨kvs, k, e, ey, l⟩ | ⟨kvs, k, b, e, ey, eb, l⟩
  · subst ey
    obtain ⟨z, hd, vs, rel, dd⟩ := dk_rd I.hok e
    obtain ⟨w', hw, rw'⟩ := RelO.some_of (v := v) (o := valueAt vs k) (by rw [l]; exact rel.val k)
    exact wpAny_getItem_of (kV_is ry) dd.mapOf hw (h w' _ (I.tok _) rw')
  · subst ey
    cases (show u = Value.ref b from ry)
    obtain ⟨z, hd, xs, rel, dd⟩ := dt_rd I.hok e
    obtain ⟨w', hw, rw'⟩ := RelO.some_of (v := v) (o := (atKey xs k).map (·.2)) (by rw [l]; exact rel.val k)
    obtain ⟨p, hp, hp2⟩ := Option.map_eq_some_iff.mp hw
    refine wpAny_getItem_heap (tupleKind_room_in1 hu) (key_of I.hok eb) dd hp ?_
    rw [hp2]
    exact h w' _ (I.tok _) rw'
theorem d_in {Q : Value → Shared → Prop} (hu : A.units + 1 < cLine) (I : Inv X pins σ H s) (g : DGet H a y o) (ry : RelV y u) (h : ∀ s', Inv X pins σ H s' → Q (.bool o.isSome) s') :
    wpAny (model X.prog X.w) A (compareOp .In u (.ref a)) Q E s := by
  rcases g with ⟨kvs, k, e, ey, l⟩ | ⟨kvs, k, b, e, ey, eb, l⟩
  · subst ey
    obtain ⟨z, hd, vs, rel, dd⟩ := dk_rd I.hok e
    refine wpAny_in_of (kV_is ry) hd dd.mapOf ?_
    rw [← (rel.val k).isSome_eq, ← l]
    exact h _ (I.tok _)
  · subst ey
    cases (show u = Value.ref b from ry)
    obtain ⟨z, hd, xs, rel, dd⟩ := dt_rd I.hok e
    refine wpAny_in_heap (tupleKind_room_in1 hu) (key_of I.hok eb) hd dd ?_
    have q := (rel.val k).isSome_eq
    rw [Option.isSome_map] at q
    rw [← q, ← l]
    exact h _ (I.tok _)
theorem d_notIn {Q : Value → Shared → Prop} (hu : A.units + 1 < cLine) (I : Inv X pins σ H s) (g : DGet H a y o) (ry : RelV y u) (h : ∀ s', Inv X pins σ H s' → Q (.bool (!o.isSome)) s') :
    wpAny (model X.prog X.w) A (compareOp .NotIn u (.ref a)) Q E s := by
  rcases g with ⟨kvs, k, e, ey, l⟩ | ⟨kvs, k, b, e, ey, eb, l⟩
  · subst ey
    obtain ⟨z, hd, vs, rel, dd⟩ := dk_rd I.hok e
    refine wpAny_notIn_of (kV_is ry) hd dd.mapOf ?_
    rw [← (rel.val k).isSome_eq, ← l]
    exact h _ (I.tok _)
  · subst ey
    cases (show u = Value.ref b from ry)
    obtain ⟨z, hd, xs, rel, dd⟩ := dt_rd I.hok e
    refine wpAny_notIn_heap (tupleKind_room_in1 hu) (key_of I.hok eb) hd dd ?_
    have q := (rel.val k).isSome_eq
    rw [Option.isSome_map] at q
    rw [← q, ← l]
    exact h _ (I.tok _)
theorem d_write {h' : Heap} {t' : Nat} {ob : HO} (I : Inv X pins σ H s) (mu : Mut (H a)) (hs : Heap.SameBut a s.heap h') (he : ∃ q, h'.get? a = some q) (new : ObjOk X.prog X.w (upd H a ob) h' a ob) :
    Inv X pins σ (upd H a ob) { s with heap := h', toks := t' } :=
  I.write (x := a) (e := a) mu (.inl rfl) (fun b q hb z => (hs.2 b hb).trans z) he new
theorem dk_new {P : Program} {w : World} {H' : Hp} {h' : Heap} {kvs : List (Key × V)} {vs : List (Key × Value)} (z : kvs.length ≤ sizeLine) (hd : (a == sysModules) = false) (rel : KV kvs vs) (dd : h'.DictOf (mixKind P w) a vs) :
    ObjOk P w H' h' a (.dK kvs) := ⟨z, hd, vs, rel, dd⟩
theorem d_setItem {H' : Hp} {Q : Unit → Shared → Prop} (hu : A.units + 1 < cLine) (I : Inv X pins σ H s) (g : DPut H a y v H') (ry : RelV y u) (rv : RelV v r) (h : ∀ s', Inv X pins σ H' s' → Q () s') :
    wpAny (model X.prog X.w) A (setItem (.ref a) u r) Q E s := by
  rcases g with ⟨kvs, k, e, ey, l, eH⟩ | ⟨kvs, k, b, e, ey, eb, l, eH⟩
  · subst ey eH
    obtain ⟨z, hd, vs, rel, dd⟩ := dk_of I.hok e
    have hz : vs.length ≤ sizeLine := by rw [← rel.length]; exact z
    have hl : (putK kvs k v).length ≤ sizeLine := by have := length_putK kvs k v; omega
    refine wpAny_setItem_pairs (hsz := hz) (kV_is ry) dd fun h' dd' hs => h _ ?_
    have he : ∃ q, h'.get? a = some q := let ⟨q, _, _, hq, _⟩ := dd'; ⟨q, hq⟩
    exact d_write I (by rw [e]; exact True.intro) hs he (dk_new hl hd (rel.put k rv) dd')
  · subst ey eH
    cases (show u = Value.ref b from ry)
    obtain ⟨z, hd, xs, rel, dd⟩ := dt_of I.hok e
    have hz : xs.length ≤ sizeLine := by rw [← Paired.length rel]; exact z
    have hl : (putK kvs k v).length ≤ sizeLine := by have := length_putK kvs k v; omega
    refine wpAny_setItem_heap (hsz := hz) (tupleKind_room_in1 hu) (key_of I.hok eb) dd fun h' dd' hs => h _ ?_
    obtain ⟨q, es, ep, hq, h2, h3, h4, _, h5⟩ := dd'
    refine d_write I (by rw [e]; exact True.intro) hs ⟨q, hq⟩ ⟨hl, hd, _, (rel.put k eb rv).keeps fun c ys ec => ?_, q, es, ep, hq, h2, h3, h4, h5⟩
    rw [upd_ne (ne_of ec e (fun z => nomatch z))]
    exact ec
end

section
variable {X : Cx} {pins : List (Addr × Obj)} {σ : St} {H : Hp} {s : Shared} {a : Addr} {kvs : List (Key × V)} {k : Key} {u : Value} {A : Around} {E : Value → Shared → Prop}
end

noncomputable def NoSl (i : Expr) : Prop := ∀ ov iv, subscripted i false ov iv = operate [ov, iv] (getItem ov iv)
theorem subD_of {prog : Program} {w : World} {A : Around} {E : Value → Shared → Prop} {s : Shared} {env : Env} {value slice : Expr} {pos : Pos} {T id : String} {Q : Value → Shared → Prop}
    (hl : typeLookup (.type T) "__getitem__" = pure (some (.builtin id))) (hs : NoSl slice)
    (h : wpAny (model prog w) A (eval value env) (fun o s₁ => wpAny (model prog w) A (eval slice env) (fun i s₂ => s₂.TypeIs o T ∧ wpAny (model prog w) A (getItem o i) Q E s₂) E s₁) E s) :
    wpAny (model prog w) A (eval (.Subscript value slice pos) env) Q E s := by
  refine Subscript_ (wpAny_mono h (fun o s₁ h₁ => wpAny_mono h₁ (fun i s₂ h₂ => ?_) fun _ _ x => x) fun _ _ x => x)
  obtain ⟨hT, h₂⟩ := h₂
  unfold subscriptTail
  refine wpAny_bind ?_
  rw [getitemInPython_of_ne hT.not_modules]
  refine wpAny_bind (wpAny_specialOf hT hl ?_)
  have fin : wpAny (model prog w) A (subscripted slice false o i) (fun r s₃ => wpAny (model prog w) A (letTemporaryGo value o r >>= fun _ => pure r) Q E s₃) E s₂ := by
    rw [hs o i]
    exact wpAny_operating (wpAny_mono h₂ (fun r s₃ h₃ => wpAny_bind (wpAny_letTemporaryGo (wpAny_pure h₃))) fun _ _ x => x)
  first
    | exact wpAny_pure (wpAny_bind fin)
    | exact wpAny_bind (wpAny_pure (wpAny_bind fin))
    | exact wpAny_bind fin

theorem dict_typeIs {X : Cx} {pins : List (Addr × Obj)} {σ : St} {H : Hp} {s : Shared} {a : Addr} {y : V} {o : Option V} (I : Inv X pins σ H s) (g : DGet H a y o) : s.TypeIs (.ref a) "dict" := by
  rcases g with ⟨kvs, k, e, _, _⟩ | ⟨kvs, k, b, e, _, _, _⟩
  · obtain ⟨_, _, vs, _, dd⟩ := dk_rd I.hok e
    exact dd.typeIs
  · obtain ⟨_, _, xs, _, dd⟩ := dt_rd I.hok e
    exact dd.typeIs

noncomputable def tDGet (td ty : TE) : TE := fun σ H Q => td σ H fun x H1 => ty σ H1 fun y H2 => ∃ a v, x = .ref a ∧ DGet H2 a y (some v) ∧ Q v H2
noncomputable def tDIn (ty td : TE) : TE := fun σ H Q => ty σ H fun y H1 => td σ H1 fun x H2 => ∃ a o, x = .ref a ∧ DGet H2 a y o ∧ Q (.bl o.isSome) H2
noncomputable def tDNotIn (ty td : TE) : TE := fun σ H Q => ty σ H fun y H1 => td σ H1 fun x H2 => ∃ a o, x = .ref a ∧ DGet H2 a y o ∧ Q (.bl (!o.isSome)) H2
noncomputable def sDPut (td ty tv : TE) : TS := fun D σ H => tv σ H fun v H1 => td σ H1 fun x H2 => ty σ H2 fun y H3 => ∃ a H4, x = .ref a ∧ DPut H3 a y v H4 ∧ D.nx σ H4

section
variable {X : Cx} {o i e value : Expr} {pos pos' tpos : Pos} {td ty tv : TE}
theorem pe_dget (hu : X.A.units + 1 < cLine) (ho : PE X o td) (hi : PE X i ty) (hs : NoSl i) : PE X (.Subscript o i pos) (tDGet td ty) := by
  intro pins s σ H Q I h
  refine subD_of PySem.F.slot_dict_getitem.lookup hs (thn (ho pins s σ H _ I h) fun u s1 ⟨x, H1, I1, rx, q1⟩ => thn (hi pins s1 σ H1 _ I1 q1) ?_)
  rintro iv s2 ⟨y, H2, I2, ry, a, v, ex, g, q2⟩
  subst ex
  obtain rfl : u = Value.ref a := rx
  exact ⟨dict_typeIs I2 g, d_getItem hu I2 g ry fun w' s3 I3 rw' => ⟨v, H2, I3, rw', q2⟩⟩
theorem pc_din (hu : X.A.units + 1 < cLine) (hi : PE X i ty) (ho : PE X o td) : PC X .In i o (tDIn ty td) := by
  intro pins s σ H Q I h
  refine thn (hi pins s σ H _ I h) fun iv s1 ⟨y, H1, I1, ry, q1⟩ => thn (ho pins s1 σ H1 _ I1 q1) ?_
  rintro u s2 ⟨x, H2, I2, rx, a, ov, ex, g, q2⟩
  subst ex
  obtain rfl : u = Value.ref a := rx
  exact d_in hu I2 g ry fun s3 I3 => ⟨.bl ov.isSome, H2, I3, rfl, q2⟩
theorem pc_dnotin (hu : X.A.units + 1 < cLine) (hi : PE X i ty) (ho : PE X o td) : PC X .NotIn i o (tDNotIn ty td) := by
  intro pins s σ H Q I h
  refine thn (hi pins s σ H _ I h) fun iv s1 ⟨y, H1, I1, ry, q1⟩ => thn (ho pins s1 σ H1 _ I1 q1) ?_
  rintro u s2 ⟨x, H2, I2, rx, a, ov, ex, g, q2⟩
  subst ex
  obtain rfl : u = Value.ref a := rx
  exact d_notIn hu I2 g ry fun s3 I3 => ⟨.bl (!ov.isSome), H2, I3, rfl, q2⟩
theorem ps_dput (hu : X.A.units + 1 < cLine) (ho : PE X o td) (hi : PE X i ty) (hv : PE X value tv) (hs : swapsWith value (some (.Subscript o i pos')) pos.line X.env = pure false) :
    PS X (.Assign [.Subscript o i pos'] value pos) (sDPut td ty tv) := by
  intro pins s σ H D I h
  refine wpAny_Assign_Subscript (thn (hv pins s σ H _ I h) fun r s1 ⟨v, H1, I1, rv, q1⟩ => thn (ho pins s1 σ H1 _ I1 q1) fun u s2 ⟨x, H2, I2, rx, q2⟩ => thn (hi pins s2 σ H2 _ I2 q2) ?_) hs
  rintro iv s3 ⟨y, H3, I3, ry, a, H4, ex, g, q3⟩
  subst ex
  obtain rfl : u = Value.ref a := rx
  exact d_setItem hu I3 g ry rv fun s4 I4 => ⟨σ, H4, I4, q3⟩
end

theorem dt_empty {P : Program} {w : World} {H : Hp} (h : Heap) (hb : sysModules < h.objs.size) : ObjOk P w H (h.push { cls := .type "dict", data := .dict #[] }) h.objs.size (.dT []) :=
  ⟨Nat.zero_le _, beq_eq_false_iff_ne.mpr (Ne.symm (Nat.ne_of_lt hb)), [], .nil, _, #[], 0, Heap.get?_push_size _ rfl, ⟨rfl, rfl, rfl⟩, rfl, rfl, List.nodup_nil⟩
noncomputable def tDNewT : TE := fun _ H Q => ∀ p, H p = none → Q (.ref p) (upd H p (.dT []))
section
variable {X : Cx} {pos : Pos}
theorem pe_dnewT : PE X (.Dict [] [] pos) tDNewT := fun pins s σ H Q I h =>
  wpAny_Dict_empty ⟨.ref s.heap.objs.size, _, I.laid (a := s.heap.objs.size) (o := .dT []) (t' := s.toks) (fun _ _ q => Heap.get?_push_of_some _ q) (Nat.le_refl _) (dt_empty s.heap I.big), rfl, h _ (I.hok.fresh (Nat.le_refl _))⟩
end

structure M1 (X : Cx) (o : Expr) (m : Str) (apos : Pos) (e : Expr) (cpos : Pos) : Prop where
  base : attributeBase o m X.env (eval o X.env) = eval o X.env
  few : ((backTo cpos (starEach [e] X.env)).all (fun x => !x.1) && (backToKw cpos (keywordEach [] X.env)).all (fun x => x.1.isSome)
    && decide (([e] : List Expr).length + ([] : List Keyword).length + (if ([] : List Keyword).isEmpty then 0 else 1) < 30)) = true
  line : (apos.endLine == cpos.line) = true
  trees : backTo cpos (starEach [e] X.env) = [(false, eval e X.env)]
structure M2 (X : Cx) (o : Expr) (m : Str) (apos : Pos) (e f : Expr) (cpos : Pos) : Prop where
  base : attributeBase o m X.env (eval o X.env) = eval o X.env
  few : ((backTo cpos (starEach [e, f] X.env)).all (fun x => !x.1) && (backToKw cpos (keywordEach [] X.env)).all (fun x => x.1.isSome)
    && decide (([e, f] : List Expr).length + ([] : List Keyword).length + (if ([] : List Keyword).isEmpty then 0 else 1) < 30)) = true
  line : (apos.endLine == cpos.line) = true
  trees : backTo cpos (starEach [e, f] X.env) = [(false, eval e X.env), (false, eval f X.env)]

section
variable {X : Cx} {pins : List (Addr × Obj)} {σ : St} {H : Hp} {s : Shared} {a : Addr} {y d : V} {u r : Value} {o : Option V} {A : Around} {E : Value → Shared → Prop}
end

section
variable {X : Cx} {o e f : Expr} {apos cpos : Pos} {td ty tx : TE}
end

section
variable {X : Cx} {pins : List (Addr × Obj)} {σ : St} {H : Hp} {s : Shared} {a : Addr} {kvs : List (Key × V)} {A : Around} {E : Value → Shared → Prop}
end

section
variable {X : Cx} {pins : List (Addr × Obj)} {σ : St} {H : Hp} {s : Shared} {a : Addr} {y : V} {u : Value} {A : Around} {E : Value → Shared → Prop}
end
end L2
namespace HT
open PySem PyProof.Rows

noncomputable def lexLt : List Int → List Int → Bool
  | [], [] => false
  | [], _ :: _ => true
  | _ :: _, [] => false
  | x :: xs, y :: ys => if x = y then lexLt xs ys else decide (x < y)
theorem lexLt_cons (x y : Int) (xs ys : List Int) : lexLt (x :: xs) (y :: ys) = if x = y then lexLt xs ys else decide (x < y) := rfl
theorem lexLt_nil_nil : lexLt [] [] = false := rfl
theorem lexLt_nil_cons (y : Int) (ys : List Int) : lexLt [] (y :: ys) = true := rfl
theorem lexLt_cons_nil (x : Int) (xs : List Int) : lexLt (x :: xs) [] = false := rfl

theorem eqAt_int (A : Around) (s : Shared) (a : Int) (t : Tok) (c : Int) (u : Tok) : ∃ e, SeqAt.EqAt A s (.int a t) (.int c u) e ∧ (e = true ↔ a = c) :=
  ⟨(a == c), SeqAt.EqAt.int_int a t c u, by simp⟩
theorem rcLt_int (A : Around) (s : Shared) (a : Int) (t : Tok) (c : Int) (u : Tok) (prog : Program) (w : World) (E : Value → Shared → Prop) (Q : Value → Shared → Prop) (h : Q (.bool (decide (a < c))) s) :
    wpAny (model prog w) A (richCompare .Lt (.int a t) (.int c u)) Q E s :=
  (PyProof.Rows.lt_int h : wpAny (model prog w) A (compareOp .Lt (.int a t) (.int c u)) Q E s)

section
open PySem.SeqAt
open PySem.AutoSeq1 (wpAny_loadPart')
open PySem.MeetsSeq PySem.MeetsSeq2 PySem.MeetsSeq3

theorem tuple_lt_ints (l b : Addr) (items items2 : Array Value) (n n2 : Nat) (dd dd2 : Option Addr) (sl sl2 : Array (Option Value)) (ns ms : List Int) (hi : IntsAre items.toList ns) (hj : IntsAre items2.toList ms) :
    Meets (Builtin.«tuple.__lt__» ⟨[.ref l, .ref b], []⟩)
      (fun _ R s => s.heap.get? l = some { cls := .type "tuple", dict := dd, data := .seq items n, slots := sl } ∧ s.heap.get? b = some { cls := .type "tuple", dict := dd2, data := .seq items2 n2, slots := sl2 } ∧
        R (.ok (.ret (.bool (lexLt ns ms)))) s) :=
  .of_wp fun prog w A R s h => by
    obtain ⟨hp, g, d, tk, os⟩ := s; obtain ⟨hl, hb, h⟩ := h
    have f2 := AutoSeq1.sub_tuple_tuple
    have z1 : items.size = ns.length := by rw [← hi.length]; simp
    have z2 : items2.size = ms.length := by rw [← hj.length]; simp
    wp_walk using wpAny_loadPart' hl, wpAny_loadPart' hb, wpAny_forIn_list _ (fun rest b s' => b.1 = none ∧ s' = ⟨hp, g, d, tk, os⟩ ∧ ∃ (vs ws : List Value) (ns' ms' : List Int), rest = vs.zip ws ∧
      IntsAre vs ns' ∧ IntsAre ws ms' ∧ ns'.length + items2.size = ms'.length + items.size ∧ R (.ok (.ret (.bool (lexLt ns' ms')))) ⟨hp, g, d, tk, os⟩) _
    case turn =>
      rintro ⟨y, x⟩ rest b s' ⟨hb', rfl, vs, ws, ns', ms', hz, hvi, hwi, hlen, hR⟩
      cases hvi with
      | nil => rw [List.zip_nil_left] at hz; cases hz
      | cons a t hvi' =>
        cases hwi with
        | nil => rw [List.zip_nil_right] at hz; cases hz
        | cons c u hwi' =>
          rw [List.zip_cons_cons] at hz
          injection hz with hyx hrest
          injection hyx with hy hx
          subst hy hx
          rw [lexLt_cons] at hR
          simp only [List.length_cons] at hlen
          obtain ⟨e, he, hiff⟩ := eqAt_int A.in1 ⟨hp, g, d, tk, os⟩ a t c u
          refine wpAny_bind (he prog w _ _ ?_)
          cases e with
          | true =>
            rw [if_pos (hiff.mp rfl)] at hR
            wp_walk
            exact ⟨rfl, rfl, _, _, _, _, hrest, hvi', hwi', by omega, hR⟩
          | false =>
            rw [if_neg (fun q => absurd (hiff.mpr q) Bool.false_ne_true)] at hR
            have hri := rcLt_int A.in1 ⟨hp, g, d, tk, os⟩ a t c u prog w
            wp_walk using hri
            exact ⟨_, rfl, by simpa using hR⟩
    case fin =>
      rintro ⟨b1, b2⟩ s' ⟨hb', rfl, vs, ws, ns', ms', hz, hvi, hwi, hlen, hR⟩
      simp only at hb'
      subst hb'
      have hv : lexLt ns' ms' = decide (items.size < items2.size) := by
        cases hvi with
        | nil =>
          cases hwi with
          | nil =>
            simp only [List.length_nil] at hlen
            rw [lexLt_nil_nil]
            exact (decide_eq_false (by omega)).symm
          | cons c u hw =>
            simp only [List.length_nil, List.length_cons] at hlen
            rw [lexLt_nil_cons]
            exact (decide_eq_true (by omega)).symm
        | cons a t hv =>
          cases hwi with
          | nil =>
            simp only [List.length_nil, List.length_cons] at hlen
            rw [lexLt_cons_nil]
            exact (decide_eq_false (by omega)).symm
          | cons c u hw =>
            rw [List.zip_cons_cons] at hz
            cases hz
      rw [hv] at hR
      wp_walk
      exact ⟨_, rfl, by simpa [Builtin.Tuple.tupleCompareSizes] using hR⟩
    case h =>
      exact ⟨rfl, rfl, items.toList, items2.toList, ns, ms, rfl, hi, hj, by omega, h⟩
end

section
variable {prog : Program} {w : World} {A : Around} {E : Value → Shared → Prop} {s : Shared}

theorem lt_tupInts {l b : Addr} {items items2 : Array Value} {ns ms : List Int} {Q : Value → Shared → Prop} (hl : IsTup s.heap l items) (hb : IsTup s.heap b items2) (hi : IntsAre items.toList ns) (hj : IntsAre items2.toList ms)
    (hu : A.units < cLine) (h : Q (.bool (lexLt ns ms)) s) : wpAny (model prog w) A (compareOp .Lt (.ref l) (.ref b)) Q E s := by
  obtain ⟨⟨cls, dd, data, sl⟩, ho, hc, n, hd⟩ := id hl
  obtain ⟨⟨cls2, dd2, data2, sl2⟩, ho2, hc2, n2, hd2⟩ := id hb
  simp only at hc hd hc2 hd2
  subst hc hd hc2 hd2
  exact richCompare_meets_room (op := .Lt) ⟨_, ho, rfl⟩ ⟨_, ho2, rfl⟩ PySem.F.slot_tuple_lt PySem.F.entry_tuple_lt (PySem.F.args_tuple_lt_2 _ _) (tuple_lt_ints l b items items2 n n2 dd dd2 sl sl2 ns ms hi hj)
    ⟨ho, ho2, show Value.bool (lexLt ns ms) ≠ Value.notImplemented ∧ Q (.bool (lexLt ns ms)) s from ⟨(fun x => nomatch x), h⟩⟩ hu

noncomputable def sIx (n d : Nat) : Option Int → Nat
  | none => d
  | some v => if v < 0 then (v + (n : Int)).toNat else min v.toNat n
theorem sIx_none (n d : Nat) : sIx n d none = d := rfl
theorem sIx_nat (n d k : Nat) : sIx n d (some (k : Int)) = min k n := by
  show (if (k : Int) < 0 then ((k : Int) + (n : Int)).toNat else min (k : Int).toNat n) = min k n
  rw [if_neg (by omega), Int.toNat_natCast]
theorem sIx_le (n d : Nat) (hd : d ≤ n) (o : Option Int) : sIx n d o ≤ n := by
  cases o with
  | none => exact hd
  | some v =>
    show (if v < 0 then (v + (n : Int)).toNat else min v.toNat n) ≤ n
    by_cases hv : v < 0
    · rw [if_pos hv]; omega
    · rw [if_neg hv]; exact Nat.min_le_right _ _
theorem clip_eq (v : Int) (n d : Nat) : (if v < 0 then max (v + (n : Int)) 0 else min v (n : Int)) = ((sIx n d (some v) : Nat) : Int) := by
  show (if v < 0 then max (v + (n : Int)) 0 else min v (n : Int)) = (((if v < 0 then (v + (n : Int)).toNat else min v.toNat n) : Nat) : Int)
  by_cases hv : v < 0
  · simp only [if_pos hv]; omega
  · simp only [if_neg hv]; omega
theorem adjust_gen (lo hi : Option Int) (n : Nat) : Builtin.Slice.sliceAdjust lo hi 1 (n : Int) = (((sIx n 0 lo : Nat) : Int), ((sIx n n hi : Nat) : Int)) := by
  have h1 : ¬ ((1 : Int) < 0) := by omega
  unfold Builtin.Slice.sliceAdjust
  simp only [h1, if_false]
  refine Prod.ext ?_ ?_
  · cases lo with
    | none => rfl
    | some v => exact clip_eq v n 0
  · cases hi with
    | none => rfl
    | some v => exact clip_eq v n n
theorem places_gen (i j : Nat) : Builtin.Slice.slicePlaces (i : Int) (j : Int) 1 = j - i := by
  unfold Builtin.Slice.slicePlaces
  have h1 : (1 : Int) > 0 := by omega
  simp only [h1, if_true, Int.ediv_one]
  split <;> omega
theorem slicePart_ {v : Value} {o : Option Int} {Q : Option Int → Shared → Prop} (p : IsPart v o) (h : Q o s) : wpAny (model prog w) A (Builtin.Slice.slicePartIndex v) Q E s := by
  cases p with
  | none => exact slicePart_none h
  | int i t => exact slicePart_int h
theorem sliceApplied_gen {sl : Addr} {vl vu : Value} {lo hi : Option Int} {n : Nat} {Q : Int × Int × Nat → Shared → Prop} (hs : s.heap.IsSliceOf sl vl vu .none) (pl : IsPart vl lo) (pu : IsPart vu hi)
    (h : Q (((sIx n 0 lo : Nat) : Int), 1, sIx n n hi - sIx n 0 lo) s) : wpAny (model prog w) A (Builtin.Slice.sliceApplied (.ref sl) (pure (n : Int))) Q E s := by
  obtain ⟨os, hos, hcs, hds⟩ := id hs
  unfold Builtin.Slice.sliceApplied Builtin.Slice.sliceFields
  refine wpAny_bind (wpAny_bind (wpAny_field hos hds (x := vl) rfl (wpAny_bind (wpAny_field hos hds (x := vu) rfl (wpAny_bind (wpAny_field hos hds (x := .none) rfl (wpAny_pure ?_)))))))
  refine wpAny_bind (slicePart_none ?_)
  show wpAny _ _ (if ((1 : Int) == 0) = true then _ else _) _ _ s
  rw [if_neg (by decide)]
  refine wpAny_bind (slicePart_ pl (wpAny_bind (slicePart_ pu (wpAny_bind (wpAny_pure ?_)))))
  show wpAny _ _ (match Builtin.Slice.sliceAdjust lo hi 1 (n : Int) with | (lo, hi) => pure (lo, (1 : Int), Builtin.Slice.slicePlaces lo hi 1)) _ _ s
  rw [adjust_gen lo hi n]
  show wpAny _ _ (pure (((sIx n 0 lo : Nat) : Int), (1 : Int), Builtin.Slice.slicePlaces ((sIx n 0 lo : Nat) : Int) ((sIx n n hi : Nat) : Int) 1)) _ _ s
  rw [places_gen]
  exact wpAny_pure h
theorem pick_gen (xs : Array Value) (i k : Nat) : ((List.range k).filterMap fun (m : Nat) => xs[((i : Int) + (m : Int) * 1).toNat]?).toArray = ((xs.toList.drop i).take k).toArray := by
  have e : (fun (m : Nat) => xs[((i : Int) + (m : Int) * 1).toNat]?) = fun m => xs[i + m]? := by
    funext m
    have : ((i : Int) + (m : Int) * 1).toNat = i + m := by omega
    rw [this]
  rw [e]
  have := pick_run xs i k
  rw [List.filterMap_map] at this
  have e2 : ((fun x => xs[x]?) ∘ fun x => i + x) = fun m => xs[i + m]? := rfl
  rw [e2] at this
  rw [this]

theorem getItem_tuple_cut {t sl : Addr} {items : Array Value} {vl vu : Value} {lo hi : Option Int} {Q : Value → Shared → Prop} (ht : IsTup s.heap t items) (hs : s.heap.IsSliceOf sl vl vu .none) (pl : IsPart vl lo) (pu : IsPart vu hi)
    (hw : ¬ (sIx items.size 0 lo = 0 ∧ sIx items.size items.size hi = items.size))
    (h : Q (.ref s.heap.objs.size) { s with heap := s.heap.push { cls := .type "tuple", data := .seq ((items.toList.drop (sIx items.size 0 lo)).take (sIx items.size items.size hi - sIx items.size 0 lo)).toArray } })
    (hsz : items.size ≤ sizeLine) : wpAny (model prog w) A (getItem (.ref t) (.ref sl)) Q E s := by
  have htake : sizeOk (.seq ((items.toList.drop (sIx items.size 0 lo)).take (sIx items.size items.size hi - sIx items.size 0 lo)).toArray) := by
    show ((items.toList.drop (sIx items.size 0 lo)).take (sIx items.size items.size hi - sIx items.size 0 lo)).toArray.size ≤ sizeLine
    rw [List.size_toArray, List.length_take, List.length_drop, Array.length_toList]
    omega (config := {})
  have hj : sIx items.size items.size hi ≤ items.size := sIx_le _ _ (Nat.le_refl _) hi
  obtain ⟨os, hos, hcs, hds⟩ := id hs
  have hTs : s.TypeIs (.ref sl) "slice" := ⟨os, hos, hcs⟩
  unfold getItem
  try with_reducible refine wpAny_holding ?_
  first | refine wpAny_bind (wpAny_pure ?_) | skip
  refine wpAny_bind (wpAny_sequenceKey ht.typeIs (by decide) ?_)
  refine wpAny_bind (wpAny_callSpecial?_slot (name := Str.ofString "__getitem__") ht.typeIs PyProof.Rows.slot_tuple_getitem
    (wpAny_call_entry PyProof.Rows.slot_tuple_getitem ht.typeIs entry_tuple_getitem ?_ (args_tuple_getitem _ _)))
  show wpAny _ _ (Builtin.Tuple.tupleItemsOf (.ref t) >>= _) _ _ s
  refine wpAny_bind (tupleItemsOf_ ht ?_)
  refine wpAny_bind (wpAny_typeOf hTs ?_)
  rw [if_pos (by decide)]
  refine wpAny_bind (sliceApplied_gen hs pl pu ?_)
  have hno : ¬ ((((sIx items.size 0 lo : Nat) : Int) == 0 && (1 : Int) == 1 && (sIx items.size items.size hi - sIx items.size 0 lo) == items.size) = true) := by
    intro q
    rw [Bool.and_eq_true, Bool.and_eq_true] at q
    have q1 : ((sIx items.size 0 lo : Nat) : Int) = 0 := eq_of_beq q.1.1
    have q2 : sIx items.size items.size hi - sIx items.size 0 lo = items.size := eq_of_beq q.2
    exact hw ⟨by omega (config := {}), by omega (config := {})⟩
  show wpAny _ _ (if (((sIx items.size 0 lo : Nat) : Int) == 0 && (1 : Int) == 1 && (sIx items.size items.size hi - sIx items.size 0 lo) == items.size) = true then _ else _) _ _ s
  rw [if_neg hno, pick_gen]
  first
    | exact wpAny_bind (m := Builtin.Tuple.tupleExact _) (wpAny_newObj_type (wpAny_pure ⟨_, rfl, wpAny_pure h⟩) htake)
    | exact wpAny_bind (m := Builtin.Tuple.tupleExact _) (wpAny_newObj_type (wpAny_bind (wpAny_pure (wpAny_pure ⟨_, rfl, wpAny_pure h⟩))) htake)
    | exact wpAny_bind (wpAny_bind (m := Builtin.Tuple.tupleExact _) (wpAny_newObj_type (wpAny_pure (wpAny_pure ⟨_, rfl, wpAny_pure h⟩)) htake))
    | exact wpAny_bind (wpAny_bind (m := Builtin.Tuple.tupleExact _) (wpAny_newObj_type (wpAny_pure ⟨_, rfl, wpAny_pure h⟩) htake))
end
end HT

namespace L2
open PySem PySem.Spec PyProof.Rows

noncomputable abbrev TO := St → Hp → (Option Int → Hp → Prop) → Prop
noncomputable def PO (X : Cx) (e : Option Expr) (t : TO) : Prop :=
  ∀ (pins : List (Addr × Obj)) (s : Shared) (σ : St) (H : Hp) (Q : Option Int → Hp → Prop), Inv X pins σ H s → t σ H Q →
    wpAny (model X.prog X.w) X.A (evalPart e X.env) (fun u s' => ∃ o H', Inv X pins σ H' s' ∧ IsPart u o ∧ Q o H') X.xe s
noncomputable def tNoPart : TO := fun _ H Q => Q none H
noncomputable def tPart (t : TE) : TO := fun σ H Q => t σ H fun x H1 => ∃ i, x = .int i ∧ Q (some i) H1

theorem intsAre_of {ns : List Int} : ∀ {us : List Value}, Vals (ns.map V.int) us → IntsAre us ns := by
  induction ns with
  | nil => intro us r; rw [List.map_nil] at r; cases r; exact .nil
  | cons n ns ih =>
    intro us r
    rw [List.map_cons] at r
    cases r with
    | cons r1 r2 =>
      obtain ⟨t, e⟩ := r1
      subst e
      exact .cons n t (ih r2)

section
variable {X : Cx} {e : Expr} {te : TE} {lo hi : Option Expr} {tl th : TO} {pos p2 : Pos}

theorem po_none : PO X none tNoPart := by
  intro pins s σ H Q I h
  rw [evalPart_none]
  exact wpAny_pure ⟨none, H, I, .none, h⟩
theorem po_some (h : PE X e te) : PO X (some e) (tPart te) := by
  intro pins s σ H Q I hw
  rw [evalPart_some]
  refine thn (h pins s σ H _ I hw) ?_
  rintro u s1 ⟨x, H1, I1, r1, q1⟩
  obtain ⟨i, rfl, q⟩ := q1
  obtain ⟨t, rfl⟩ := r1
  exact ⟨some i, H1, I1, .int i t, q⟩

noncomputable def SlR (X : Cx) (r : V → Option Int → Option Int → Hp → VK → Prop) : Prop :=
  ∀ (pins : List (Addr × Obj)) (s : Shared) (σ : St) (H : Hp) (x : V) (v vl vu : Value) (lo hi : Option Int) (sl : Addr) (Q : VK), Inv X pins σ H s → RelV x v → s.heap.IsSliceOf sl vl vu .none → IsPart vl lo → IsPart vu hi → r x lo hi H Q →
    ∃ T id, typeLookup (.type T) "__getitem__" = pure (some (.builtin id)) ∧ s.TypeIs v T ∧ wpAny (model X.prog X.w) X.A (getItem v (.ref sl)) (EP X pins σ Q) X.xe s
theorem SlR.or {r r' : V → Option Int → Option Int → Hp → VK → Prop} (h : SlR X r) (h' : SlR X r') : SlR X (fun x lo hi H Q => r x lo hi H Q ∨ r' x lo hi H Q) := by
  intro pins s σ H x v vl vu lo hi sl Q I rx hs pl pu q
  rcases q with q | q
  · exact h pins s σ H x v vl vu lo hi sl Q I rx hs pl pu q
  · exact h' pins s σ H x v vl vu lo hi sl Q I rx hs pl pu q
noncomputable def tSl (r : V → Option Int → Option Int → Hp → VK → Prop) (te : TE) (tl th : TO) : TE := fun σ H Q => te σ H fun x H1 => tl σ H1 fun l H2 => th σ H2 fun u H3 => r x l u H3 Q
theorem pe_slice {r : V → Option Int → Option Int → Hp → VK → Prop} (hr : SlR X r) (he : PE X e te) (hl : PO X lo tl) (hu : PO X hi th) : PE X (.Subscript e (.Slice lo hi none p2) pos) (tSl r te tl th) := by
  intro pins s σ H Q I h
  refine Subscript_ (thn (he pins s σ H _ I h) ?_)
  rintro v s1 ⟨x, H1, I1, r1, q1⟩
  refine wpAny_Slice (thn (hl pins s1 σ H1 _ I1 q1) fun vl s2 ⟨l, H2, I2, pl, q2⟩ => thn (hu pins s2 σ H2 _ I2 q2) ?_)
  rintro vu s3 ⟨u, H3, I3, pu, q3⟩
  rw [evalPart_none]
  refine wpAny_pure ?_
  have I4 : Inv X pins σ H3 { s3 with heap := s3.heap.push { cls := .type "slice", data := .fields #[vl, vu, .none] } } := I3.kept (t' := s3.toks) fun b ob q => Heap.get?_push_of_some _ q
  obtain ⟨T, id, hT, ht, hg⟩ := hr pins { s3 with heap := s3.heap.push { cls := .type "slice", data := .fields #[vl, vu, .none] } } σ H3 x v vl vu l u s3.heap.objs.size Q I4 r1 (Heap.IsSliceOf.new ..) pl pu q3
  show wpAny (model X.prog X.w) X.A (subscriptTail e (.Slice lo hi none p2) v (.ref s3.heap.objs.size)) (EP X pins σ Q) X.xe { s3 with heap := s3.heap.push { cls := .type "slice", data := .fields #[vl, vu, .none] } }
  exact tail_any (ops := [.ref s3.heap.objs.size, v]) ht hT hg (by with_unfolding_all rfl)

noncomputable def cutV (xs : List V) (lo hi : Option Int) : List V := (xs.drop (HT.sIx xs.length 0 lo)).take (HT.sIx xs.length xs.length hi - HT.sIx xs.length 0 lo)
theorem cutV_length (xs : List V) (lo hi : Option Int) : (cutV xs lo hi).length ≤ xs.length := by
  unfold cutV
  rw [List.length_take, List.length_drop]
  omega
noncomputable def rSlT (K : PySem.W.Frag) : V → Option Int → Option Int → Hp → VK → Prop := fun x lo hi H Q => ∃ a xs, x = .ref a ∧ SqT K H a xs ∧
  ¬ (HT.sIx xs.length 0 lo = 0 ∧ HT.sIx xs.length xs.length hi = xs.length) ∧ ∀ p, H p = none → Q (.ref p) (upd H p (.tup (cutV xs lo hi)))
theorem sl_tup : SlR X (rSlT X.K) := by
  intro pins s σ H x v vl vu lo hi sl Q I rx hs pl pu h
  obtain ⟨a, xs, rfl, hx, hw, q⟩ := h
  cases rx
  obtain ⟨its, r, ht, hz⟩ := I.tuple hx
  have hlen : its.toArray.size = xs.length := by rw [List.size_toArray]; exact r.length.symm
  refine ⟨"tuple", _, PyProof.Rows.slot_tuple_getitem.lookup, ht.typeIs, ?_⟩
  refine HT.getItem_tuple_cut ht hs pl pu (by rw [hlen]; exact hw) ?_ (by rw [hlen]; exact hz)
  rw [hlen]
  refine ⟨.ref s.heap.objs.size, _, I.laid (t' := s.toks) (o := .tup (cutV xs lo hi)) (fun b ob q => Heap.get?_push_of_some _ q) (Nat.le_refl _) ?_, rfl, q _ (I.hok.fresh (Nat.le_refl _))⟩
  exact ⟨Nat.le_trans (cutV_length xs lo hi) hz, _, (r.drop (HT.sIx xs.length 0 lo)).take (HT.sIx xs.length xs.length hi - HT.sIx xs.length 0 lo), IsTup.new _ _⟩

noncomputable def rLtT (K : PySem.W.Frag) : R2 := fun x y H Q => ∃ a b ns ms, x = .ref a ∧ y = .ref b ∧ SqT K H a (ns.map V.int) ∧ SqT K H b (ms.map V.int) ∧ Q (.bl (HT.lexLt ns ms)) H
theorem op_ltT (hu : X.A.units < cLine) : OpR X (compareOp .Lt) (rLtT X.K) := by
  intro pins s σ H x y v u Q I rx ry h
  obtain ⟨a, b, ns, ms, rfl, rfl, ha, hb, q⟩ := h
  cases rx
  cases ry
  obtain ⟨its, r1, p1, _⟩ := I.tuple ha
  obtain ⟨its2, r2, p2, _⟩ := I.tuple hb
  have i1 : IntsAre its.toArray.toList ns := intsAre_of r1
  have i2 : IntsAre its2.toArray.toList ms := intsAre_of r2
  exact HT.lt_tupInts p1 p2 i1 i2 hu ⟨.bl (HT.lexLt ns ms), H, I, rfl, q⟩
end
end L2

namespace L2
open PySem PySem.Spec PyProof.Rows

noncomputable def ixN (n : Nat) (i : Int) : Option Nat := if 0 ≤ i then (if i < n then some i.toNat else none) else if -(n : Int) ≤ i then some (i + n).toNat else none
noncomputable def atI {α : Type} (xs : List α) (i : Int) : Option α := (ixN xs.length i).bind fun j => xs[j]?
theorem ixN_seq {n : Nat} {i : Int} {j : Nat} (h : ixN n i = some j) : seqIndex? i n = some j ∧ j < n ∧ -(n : Int) ≤ i ∧ i < n := by
  unfold ixN at h
  by_cases h0 : 0 ≤ i
  · rw [if_pos h0] at h
    by_cases h1 : i < n
    · rw [if_pos h1] at h
      have e : i.toNat = j := Option.some.inj h
      exact ⟨by rw [seqIndex_of h0 h1, e], by omega, by omega, h1⟩
    · rw [if_neg h1] at h; cases h
  · rw [if_neg h0] at h
    by_cases h1 : -(n : Int) ≤ i
    · rw [if_pos h1] at h
      have e : (i + n).toNat = j := Option.some.inj h
      exact ⟨by rw [seqIndex_neg (by omega) h1, e], by omega, h1, by omega⟩
    · rw [if_neg h1] at h; cases h
theorem atI_get {α : Type} {xs : List α} {i : Int} {v : α} (h : atI xs i = some v) : ∃ j, seqIndex? i xs.length = some j ∧ xs[j]? = some v ∧ j < xs.length ∧ -(xs.length : Int) ≤ i ∧ i < xs.length := by
  unfold atI at h
  cases e : ixN xs.length i with
  | none => rw [e] at h; cases h
  | some j =>
    rw [e] at h
    obtain ⟨h1, h2, h3, h4⟩ := ixN_seq e
    exact ⟨j, h1, h, h2, h3, h4⟩
theorem atI_nat {α : Type} {xs : List α} {j : Nat} {v : α} (h : xs[j]? = some v) : atI xs (j : Int) = some v := by
  have hj : j < xs.length := (List.getElem?_eq_some_iff.mp h).1
  have e : ixN xs.length (j : Int) = some j := by
    unfold ixN
    rw [if_pos (by omega), if_pos (by omega)]; simp
  unfold atI; rw [e]; exact h

noncomputable def PlainIx (b : Expr) : Prop := ∀ o i, subscripted b false o i = operate [o, i] (getItem o i)
noncomputable def IxR (X : Cx) (r : R2) : Prop :=
  ∀ (value slice : Expr) (pins : List (Addr × Obj)) (s : Shared) (σ : St) (H : Hp) (x y : V) (v u : Value) (Q : VK), Inv X pins σ H s → RelV x v → RelV y u → r x y H Q →
    subscripted slice false v u = operate [v, u] (getItem v u) → wpAny (model X.prog X.w) X.A (subscriptTail value slice v u) (EP X pins σ Q) X.xe s
noncomputable def MtR (X : Cx) (id : String) (r : V → List V → Hp → VK → Prop) : Prop :=
  ∀ (pins : List (Addr × Obj)) (s : Shared) (σ : St) (H : Hp) (x : V) (xs : List V) (v : Value) (us : List Value) (Q : VK), Inv X pins σ H s → RelV x v → Vals xs us → r x xs H Q →
    wpAny (model X.prog X.w) X.A (call (.builtin id) (v :: us)) (EP X pins σ Q) X.xe s
section
variable {X : Cx} {a b : Expr} {ta tb : TE} {pos : Pos}
theorem IxR.or {r r' : R2} (h : IxR X r) (h' : IxR X r') : IxR X (fun x y H Q => r x y H Q ∨ r' x y H Q) := by
  intro value slice pins s σ H x y v u Q I rx ry q hs
  rcases q with q | q
  · exact h value slice pins s σ H x y v u Q I rx ry q hs
  · exact h' value slice pins s σ H x y v u Q I rx ry q hs
theorem pe_ix {r : R2} (hr : IxR X r) (ha : PE X a ta) (hb : PE X b tb) (hs : PlainIx b) : PE X (.Subscript a b pos) (tOp r ta tb) := by
  intro pins s σ H Q I h
  exact Subscript_ (binT ha hb I h fun v u s2 x y H2 I2 rx ry q => hr a b pins s2 σ H2 x y v u Q I2 rx ry q (hs _ _))

noncomputable def rIxL (K : PySem.W.Frag) : R2 := fun x y H Q => ∃ p xs i v, x = .ref p ∧ y = .int i ∧ SqL K H p xs ∧ atI xs i = some v ∧ Q v H
noncomputable def rIxT (K : PySem.W.Frag) : R2 := fun x y H Q => ∃ p xs i v, x = .ref p ∧ y = .int i ∧ SqT K H p xs ∧ atI xs i = some v ∧ Q v H
noncomputable def rIxS : R2 := fun x y H Q => ∃ z i c, x = .str z ∧ y = .int i ∧ z.length ≤ sizeLine ∧ atI z.cps.toList i = some c ∧ Q (.str ⟨#[c]⟩) H
theorem ix_list : IxR X (rIxL X.K) := by
  intro value slice pins s σ H x y v u Q I rx ry h hs
  obtain ⟨p, xs, i, z, rfl, rfl, hq, he, q⟩ := h
  cases rx
  obtain ⟨t, rfl⟩ := ry
  obtain ⟨its, r, pl, hz⟩ := I.list hq
  obtain ⟨j, h1, h2, h3, h4, h5⟩ := atI_get he
  obtain ⟨w, ew, rw'⟩ := r.get h2
  have hl := r.length
  have hn := line63
  have fin : EP X pins σ Q w s := ⟨z, H, I, rw', q⟩
  by_cases h0 : 0 ≤ i
  · have hj : i.toNat = j := by
      rw [seqIndex_of h0 h5] at h1
      exact Option.some.inj h1
    exact item_listR pl.isList h0 (by omega) (by rw [hj]; simpa using ew) fin hs
  · have hj : (i + (its.toArray.size : Int)).toNat = j := by
      rw [seqIndex_neg (by omega) h4] at h1
      rw [List.size_toArray, ← hl]
      exact Option.some.inj h1
    exact subscriptTail_builtinR (x := w) pl.isList.typeIs slot_list_getitem.lookup
      (wpAny_getItem_list_neg (Q := fun r s' => r = w ∧ EP X pins σ Q r s') pl.isList (by omega) (by rw [List.size_toArray] <;> omega) (by omega) (by rw [hj]; simpa using ew) ⟨rfl, fin⟩) hs
theorem ix_tup : IxR X (rIxT X.K) := by
  intro value slice pins s σ H x y v u Q I rx ry h hs
  obtain ⟨p, xs, i, z, rfl, rfl, hq, he, q⟩ := h
  cases rx
  obtain ⟨t, rfl⟩ := ry
  obtain ⟨its, r, pl, hz⟩ := I.tuple hq
  obtain ⟨j, h1, h2, h3, h4, h5⟩ := atI_get he
  obtain ⟨w, ew, rw'⟩ := r.get h2
  have hl := r.length
  have hn := line63
  have fin : EP X pins σ Q w s := ⟨z, H, I, rw', q⟩
  exact subscriptTail_builtinR (x := w) pl.typeIs slot_tuple_getitem.lookup
    (getItem_tuple (j := j) (Q := fun r s' => r = w ∧ EP X pins σ Q r s') pl (by omega) (by omega) (by rw [List.size_toArray, ← hl]; exact h1) (by simpa using ew) ⟨rfl, fin⟩) hs
theorem ix_str : IxR X rIxS := by
  intro value slice pins s σ H x y v u Q I rx ry h hs
  obtain ⟨z, i, c, rfl, rfl, hz, he, q⟩ := h
  obtain ⟨t, rfl⟩ := rx
  obtain ⟨t', rfl⟩ := ry
  obtain ⟨j, h1, h2, h3, h4, h5⟩ := atI_get he
  have hl : z.cps.toList.length = z.length := by simp [Str.length]
  rw [hl] at h1 h4 h5
  have hn := line63
  exact tail_any (typeIs_str s z t) slot_str_getitem.lookup (getItem_str (c := c) (by
    have e1 : decide (i < -(2 ^ 63 : Int)) = false := decide_eq_false (by omega)
    have e2 : decide (i ≥ 2 ^ 63) = false := decide_eq_false (by omega)
    rw [e1, e2, Bool.or_false]) (by rw [h1]; simpa using h2) ⟨.str ⟨#[c]⟩, H, I.tok _, ⟨_, rfl⟩, q⟩) hs
noncomputable def rIx (K : PySem.W.Frag) : R2 := fun x y H Q => rIxL K x y H Q ∨ rIxT K x y H Q ∨ rIxS x y H Q
theorem ix_seq : IxR X (rIx X.K) := ix_list.or (ix_tup.or ix_str)

theorem mapSeq_set (its : List Value) (n j : Nat) (u : Value) : Obj.mapSeq (·.setIfInBounds j u) { cls := .type "list", data := .seq its.toArray n } = { cls := .type "list", data := .seq (its.set j u).toArray n } := by
  simp [Obj.mapSeq]
theorem Inv.lst {pins : List (Addr × Obj)} {σ : St} {H : Hp} {s : Shared} {p : Addr} {xs : List V} (I : Inv X pins σ H s) (h : H p = some (.lst xs)) :
    ∃ (its : List Value) (n : Nat), Vals xs its ∧ s.heap.get? p = some { cls := .type "list", data := .seq its.toArray n } ∧ xs.length ≤ sizeLine := by
  obtain ⟨z, its, n, r, e⟩ := I.hok p _ h
  exact ⟨its, n, r, e, z⟩
theorem Inv.lstUpd {pins : List (Addr × Obj)} {σ : St} {H : Hp} {s : Shared} {p : Addr} {xs ys : List V} {its its' : List Value} {n n' : Nat} {f : Obj → Obj} (I : Inv X pins σ H s) (h : H p = some (.lst xs))
    (ho : s.heap.get? p = some { cls := .type "list", data := .seq its.toArray n }) (hf : f { cls := .type "list", data := .seq its.toArray n } = { cls := .type "list", data := .seq its'.toArray n' }) (r : Vals ys its') (hz : ys.length ≤ sizeLine) (t : Nat) :
    Inv X pins σ (upd H p (.lst ys)) { s with heap := s.heap.update p f, toks := t } := by
  have e : (s.heap.update p f).get? p = some { cls := .type "list", data := .seq its'.toArray n' } := by
    rw [Heap.get?_update_self f ho (by rw [hf] <;> rfl), hf]
  refine I.write (x := p) (e := p) (by rw [h]; trivial) (.inl rfl) (fun b u hb q => (Heap.get?_update_other _ _ (Ne.symm hb)).trans q) ⟨_, e⟩ ?_
  exact ⟨hz, its', n', r, e⟩
noncomputable def rSetL : V → V → V → Hp → (Hp → Prop) → Prop := fun o i v H Q => ∃ p xs k j, o = .ref p ∧ i = .int k ∧ H p = some (.lst xs) ∧ ixN xs.length k = some j ∧ Q (upd H p (.lst (xs.set j v)))
theorem set_list : PSet X rSetL := by
  intro pins s σ H o i v ov iv u Q I ro ri rv h
  obtain ⟨p, xs, k, j, rfl, rfl, hp, hj, q⟩ := h
  cases ro
  obtain ⟨t, rfl⟩ := ri
  obtain ⟨its, n, r, ho, hz⟩ := I.lst hp
  obtain ⟨h1, h2, h3, h4⟩ := ixN_seq hj
  have hl := r.length
  have hn := line63
  have I' : Inv X pins σ (upd H p (.lst (xs.set j v))) { s with heap := s.heap.update p (Obj.mapSeq (·.setIfInBounds j u)) } :=
    I.lstUpd hp ho (mapSeq_set its n j u) (r.set rv j) (by rw [List.length_set]; exact hz) s.toks
  by_cases h0 : 0 ≤ k
  · have hk : k.toNat = j := by
      rw [seqIndex_of h0 h4] at h1
      exact Option.some.inj h1
    exact PySem.W.ki_setAt ho h0 (by omega) (by rw [List.size_toArray, ← hl]; exact h4) (by rw [hk]; exact ⟨_, I', q⟩)
  · have hk : (k + (its.toArray.size : Int)).toNat = j := by
      rw [seqIndex_neg (by omega) h3] at h1
      rw [List.size_toArray, ← hl]
      exact Option.some.inj h1
    exact PySem.W.ki_setBack ho (by omega) (by rw [List.size_toArray, ← hl]; exact h3) (by omega) (by rw [hk]; exact ⟨_, I', q⟩)

theorem slice_bounds (lo hi : Option Int) (n : Nat) : (sliceBounds lo hi none n).1 = ((HT.sIx n 0 lo : Nat) : Int) ∧ (sliceBounds lo hi none n).2.1 = ((HT.sIx n n hi : Nat) : Int) ∧ (sliceBounds lo hi none n).2.2 = 1 := by
  refine ⟨?_, ?_, rfl⟩
  · cases lo with
    | none => simp [sliceBounds, HT.sIx]
    | some i =>
      simp only [sliceBounds, HT.sIx, Option.getD_none, show (1 : Int) > 0 by decide, if_true]
      by_cases h : i < 0
      · simp only [h, if_true] <;> omega
      · simp only [h, if_false] <;> omega
  · cases hi with
    | none => simp [sliceBounds, HT.sIx]
    | some i =>
      simp only [sliceBounds, HT.sIx, Option.getD_none, show (1 : Int) > 0 by decide, if_true]
      by_cases h : i < 0
      · simp only [h, if_true] <;> omega
      · simp only [h, if_false] <;> omega
theorem slicePick_cut (its : List Value) (lo hi : Option Int) : slicePick its.toArray lo hi none = ((its.drop (HT.sIx its.length 0 lo)).take (HT.sIx its.length its.length hi - HT.sIx its.length 0 lo)).toArray := by
  obtain ⟨h1, h2, h3⟩ := slice_bounds lo hi its.toArray.size
  unfold slicePick
  rw [h1, h2, h3]
  simp only [sliceRange_one, pick_run, List.size_toArray] <;> rfl
noncomputable def rSlL (K : PySem.W.Frag) : V → Option Int → Option Int → Hp → VK → Prop := fun x lo hi H Q => ∃ a xs, x = .ref a ∧ SqL K H a xs ∧ ∀ p, H p = none → Q (.ref p) (upd H p (.lst (cutV xs lo hi)))
theorem sl_list : SlR X (rSlL X.K) := by
  intro pins s σ H x v vl vu lo hi sl Q I rx hs pl pu h
  obtain ⟨a, xs, rfl, hx, q⟩ := h
  cases rx
  obtain ⟨its, r, ht, hz⟩ := I.list hx
  have hlen := r.length
  refine ⟨"list", _, slot_list_getitem.lookup, ht.isList.typeIs, ?_⟩
  refine wpAny_getItem_list_slice ht.isList hs pl pu .none (by simp) ?_ (by rw [List.size_toArray] <;> omega)
  rw [slicePick_cut, ← hlen]
  refine ⟨.ref s.heap.objs.size, _, I.laid (t' := s.toks) (o := .lst (cutV xs lo hi)) (fun b ob q => Heap.get?_push_of_some _ q) (Nat.le_refl _) ?_, rfl, q _ (I.hok.fresh (Nat.le_refl _))⟩
  exact ⟨Nat.le_trans (cutV_length xs lo hi) hz, _, 0, (r.drop (HT.sIx xs.length 0 lo)).take (HT.sIx xs.length xs.length hi - HT.sIx xs.length 0 lo), Heap.get?_push_size _ rfl⟩

theorem call_len_seq : CallR X (.builtin "len") (fun xs H Q => ∃ p ys, xs = [.ref p] ∧ (SqL X.K H p ys ∨ SqT X.K H p ys) ∧ Q (.int ys.length) H) := by
  intro pins s σ H xs us Q I r h
  obtain ⟨p, ys, rfl, hq, q⟩ := h
  obtain ⟨u, rfl, rx⟩ := vals1 r
  cases rx
  have hn := line63
  rcases hq with hq | hq
  · obtain ⟨its, r', pl, hz⟩ := I.list hq
    have hlen := r'.length
    exact Calls.call_len_list pl.isList (by simp only [List.size_toArray] <;> omega) ⟨.int ys.length, H, I.tok _, ⟨s.toks + 1, by rw [List.size_toArray, hlen]⟩, q⟩
  · obtain ⟨its, r', pl, hz⟩ := I.tuple hq
    have hlen := r'.length
    exact len_tuple pl (by simp only [List.size_toArray] <;> omega) ⟨.int ys.length, H, I.tok _, ⟨s.toks + 1, by rw [List.size_toArray, hlen]⟩, q⟩
theorem call_len_str : CallR X (.builtin "len") (fun xs H Q => ∃ z, xs = [.str z] ∧ z.length ≤ sizeLine ∧ Q (.int z.length) H) := by
  intro pins s σ H xs us Q I r h
  obtain ⟨z, rfl, hz, q⟩ := h
  obtain ⟨u, rfl, t, rfl⟩ := vals1 r
  have hn := line63
  exact len_str (by omega) ⟨.int z.length, H, I.tok _, ⟨_, rfl⟩, q⟩
theorem CallR.or {f : Value} {r r' : List V → Hp → VK → Prop} (h : CallR X f r) (h' : CallR X f r') : CallR X f (fun xs H Q => r xs H Q ∨ r' xs H Q) := by
  intro pins s σ H xs us Q I rs q
  rcases q with q | q
  · exact h pins s σ H xs us Q I rs q
  · exact h' pins s σ H xs us Q I rs q
theorem call_list_of : CallR X (.type "list") (fun xs H Q => ∃ p ys, xs = [.ref p] ∧ (SqL X.K H p ys ∨ SqT X.K H p ys) ∧ ∀ l, H l = none → Q (.ref l) (upd H l (.lst ys))) := by
  intro pins s σ H xs us Q I r h
  obtain ⟨p, ys, rfl, hq, q⟩ := h
  obtain ⟨u, rfl, rx⟩ := vals1 r
  cases rx
  have fin : ∀ (its : List Value), Vals ys its → ys.length ≤ sizeLine → ∀ (h' : Heap) (c' : Nat), (∀ b o', s.heap.get? b = some o' → h'.get? b = some o') →
      h'.get? s.heap.objs.size = some { cls := .type "list", dict := none, data := .seq its.toArray c', slots := #[] } → EP X pins σ Q (.ref s.heap.objs.size) { s with heap := h' } := fun its r' hz h' c' kp e =>
    ⟨.ref s.heap.objs.size, _, I.laid (t' := s.toks) kp (Nat.le_refl _) (show ObjOk X.prog X.w _ h' _ (.lst ys) from ⟨hz, its, c', r', e⟩), rfl, q _ (I.hok.fresh (Nat.le_refl _))⟩
  rcases hq with hq | hq
  · obtain ⟨its, r', pl, hz⟩ := I.list hq
    have hlen := r'.length
    obtain ⟨o, ho, hc, n, hd⟩ := pl.isList
    exact call_list_seq p (.inl rfl) ho hc hd (fun h' c' kp e => fin its r' hz h' c' kp e) (by simp only [List.size_toArray] <;> omega)
  · obtain ⟨its, r', pl, hz⟩ := I.tuple hq
    have hlen := r'.length
    obtain ⟨o, ho, hc, n, hd⟩ := pl
    exact call_list_seq p (.inr rfl) ho hc hd (fun h' c' kp e => fin its r' hz h' c' kp e) (by simp only [List.size_toArray] <;> omega)

noncomputable def tyV (K : PySem.W.Frag) (T : String) (x : V) (H : Hp) : Prop := match x with
  | .str _ => T = "str"
  | .int _ => T = "int"
  | .ref p => (T = "list" ∧ ∃ xs, SqL K H p xs) ∨ (T = "tuple" ∧ ∃ o, K.lookup p = some o ∧ o.cls = .type "tuple" ∧ o.dict = none) ∨
      (T = "dict" ∧ ((∃ kvs, H p = some (.dK kvs)) ∨ ∃ kvs, H p = some (.dT kvs))) ∨ (T = "set" ∧ ∃ S n, H p = some (.set S n))
  | _ => False
theorem tyV_is {pins : List (Addr × Obj)} {σ : St} {H : Hp} {s : Shared} {T : String} {x : V} {v : Value} (I : Inv X pins σ H s) (r : RelV x v) (ty : tyV X.K T x H) :
    s.TypeIs v T ∧ ∀ a, v = .ref a → ∃ ob, s.heap.get? a = some ob ∧ ob.dict = none := by
  cases x with
  | str z =>
    obtain ⟨t, rfl⟩ := r
    cases (show T = "str" from ty)
    exact ⟨typeIs_str s z t, fun _ e => nomatch e⟩
  | int i =>
    obtain ⟨t, rfl⟩ := r
    cases (show T = "int" from ty)
    exact ⟨typeIs_int s i t, fun _ e => nomatch e⟩
  | ref p =>
    cases r
    rcases ty with ⟨rfl, xs, hq⟩ | ⟨rfl, o, hk, hc, hd⟩ | ⟨rfl, hk⟩ | ⟨rfl, S, n, hk⟩
    · obtain ⟨its, _, pl, _⟩ := I.list hq
      refine ⟨pl.isList.typeIs, fun a e => ?_⟩
      cases e
      obtain ⟨o, n, e, c, hd, _⟩ := pl
      exact ⟨o, e, hd⟩
    · refine ⟨⟨o, I.kIn p o hk, hc⟩, fun a e => ?_⟩
      cases e
      exact ⟨o, I.kIn _ o hk, hd⟩
    · have z : ∃ o, s.heap.get? p = some o ∧ o.ExactDict := by
        rcases hk with ⟨kvs, hk⟩ | ⟨kvs, hk⟩
        · obtain ⟨_, _, _, _, o, _, _, e, ex, _⟩ := I.hok p _ hk
          exact ⟨o, e, ex⟩
        · obtain ⟨_, _, _, _, o, _, _, e, ex, _⟩ := I.hok p _ hk
          exact ⟨o, e, ex⟩
      obtain ⟨o, e, ex⟩ := z
      refine ⟨⟨o, e, ex.1⟩, fun a e2 => ?_⟩
      cases e2
      exact ⟨o, e, ex.2.1⟩
    · obtain ⟨o, _, _, _, e, ex, _⟩ := I.hok p _ hk
      refine ⟨⟨o, e, ex.1⟩, fun a e2 => ?_⟩
      cases e2
      exact ⟨o, e, ex.2.1⟩
  | _ => exact False.elim ty
noncomputable def tBM (K : PySem.W.Frag) (T : String) (r : V → List V → Hp → VK → Prop) (to : TE) (t : TA) : TE := fun σ H Q => to σ H fun x H1 => tyV K T x H1 ∧ t σ H1 fun xs H2 => r x xs H2 Q
variable {o e : Expr} {es : List Expr} {to : TE} {t : TA} {name : Str} {apos cpos : Pos} {T id : String} {r : V → List V → Hp → VK → Prop}
theorem pe_bm (pa : PlainAttrs T) (slot : Slot T name id) (hty : typeOf (.builtin id) = pure (.type "method_descriptor")) (hm : MtR X id r) (ho : PE X o to) (ha : PA X (e :: es) t)
    (hbase : attributeBase o name X.env (eval o X.env) = eval o X.env := by rfl)
    (hfew : ((backTo cpos (starEach (e :: es) X.env)).all (fun x => !x.1) && (backToKw cpos (keywordEach [] X.env)).all (fun x => x.1.isSome)
      && decide ((e :: es).length + ([] : List Keyword).length + (if ([] : List Keyword).isEmpty then 0 else 1) < 30)) = true := by rfl)
    (hline : (apos.endLine == cpos.line) = true := by rfl) (hs : starEach (e :: es) X.env = (false, eval e X.env) :: starEach es X.env := by rfl) (hplain : (backTo cpos (starEach es X.env)).any (·.1) = false := by rfl) :
    PE X (.Call (.Attribute o name apos) (e :: es) [] cpos) (tBM X.K T r to t) := by
  intro pins s σ H Q I h
  refine wpAny_Call_method_late hbase hfew hline rfl (thn (ho pins s σ H _ I h) ?_)
  rintro v s1 ⟨x, H1, I1, r1, ty, q1⟩
  obtain ⟨h1, h2⟩ := tyV_is I1 r1 ty
  refine ⟨T, id, pa, slot, hty, h1, h2, ?_⟩
  have hA := ha cpos pins s1 σ H1 _ I1 q1
  rw [hs] at hA ⊢
  refine Calls.callWith_builtin (by show (false || (backTo cpos (starEach es X.env)).any (·.1)) = false; rw [hplain] <;> rfl) (Calls.evalArgs_plain ?_)
  exact thn hA fun us s2 ⟨vs, H2, I2, r2, q2⟩ => hm pins s2 σ H2 x vs v us Q I2 r1 r2 q2
/- xs.append(e), list.index on a module's tuple .. are MtR facts of 06m -/
end
end L2

namespace L2
open PySem PySem.Spec PyProof.Rows

noncomputable def MtM (X : Cx) (id : String) (r : V → List V → Hp → VK → Prop) : Prop :=
  ∀ (pins : List (Addr × Obj)) (s : Shared) (σ : St) (H : Hp) (x : V) (xs : List V) (v : Value) (us : List Value) (Q : VK), Inv X pins σ H s → RelV x v → Vals xs us → r x xs H Q →
    wpAny (model X.prog X.w) X.A (call (.builtin id) (v :: us)) (EP X pins σ Q) X.xe s

theorem Vals.one : ∀ {x : V} {us : List Value}, Vals [x] us → ∃ u, us = [u] ∧ RelV x u
  | _, _, .cons r .nil => ⟨_, rfl, r⟩

section
variable {X : Cx} {pins : List (Addr × Obj)} {σ : St} {H : Hp} {s : Shared} {l b : Addr} {xs ys zs : List V}

theorem Inv.lset {its its' : List Value} {n : Nat} {f : Array Value → Array Value} {t' : Nat} (I : Inv X pins σ H s) (hH : H l = some (.lst xs))
    (e : s.heap.get? l = some { cls := .type "list", data := .seq its.toArray n }) (hf : f its.toArray = its'.toArray) (hv : Vals ys its') (hz : ys.length ≤ sizeLine) :
    Inv X pins σ (upd H l (.lst ys)) { s with heap := s.heap.update l (Obj.mapSeq f), toks := t' } := by
  have q := PySem.IsL.update e f
  rw [hf] at q
  refine I.write (x := l) (e := l) (by rw [hH]; exact trivial) (.inl rfl) (fun b' u hb hu => (Heap.get?_update_other s.heap (Obj.mapSeq f) (Ne.symm hb)).trans hu) ⟨_, q⟩ ?_
  exact ⟨hz, its', _, hv, q⟩
theorem Inv.lnew {its : List Value} {t' : Nat} (I : Inv X pins σ H s) (hv : Vals ys its) (hz : ys.length ≤ sizeLine) :
    Inv X pins σ (upd H s.heap.objs.size (.lst ys)) { s with heap := s.heap.push { cls := .type "list", data := .seq its.toArray }, toks := t' } :=
  I.laid (fun _ _ q => Heap.get?_push_of_some _ q) (Nat.le_refl _) ⟨hz, its, 0, hv, Heap.get?_push_size _ rfl⟩
theorem Inv.fresh (I : Inv X pins σ H s) : H s.heap.objs.size = none := I.hok.fresh (Nat.le_refl _)
theorem Inv.lstM (I : Inv X pins σ H s) (hH : H l = some (.lst xs)) : xs.length ≤ sizeLine ∧ ∃ (its : List Value) (n : Nat), Vals xs its ∧ xs.length = its.length ∧ s.heap.get? l = some { cls := .type "list", data := .seq its.toArray n } := by
  obtain ⟨z, its, n, r, e⟩ := I.hok l _ hH
  exact ⟨z, its, n, r, r.length, e⟩

theorem notLongL {n : Nat} (h : n ≤ sizeLine) : Builtin.List.listTooLong n = false := by
  unfold Builtin.List.listTooLong
  exact decide_eq_false (by omega)
end

section
variable {X : Cx}

noncomputable def rAppend : V → List V → Hp → VK → Prop := fun x vs H Q => ∃ l xs y, x = .ref l ∧ vs = [y] ∧ H l = some (.lst xs) ∧ xs.length < sizeLine ∧ Q .non (upd H l (.lst (xs ++ [y])))
theorem mt_append : MtM X "list.append" rAppend := by
  intro pins s σ H x vs v us Q I rx rv h
  obtain ⟨l, xs, y, rfl, rfl, hH, hz, q⟩ := h
  cases rx
  obtain ⟨u, rfl, ru⟩ := rv.one
  obtain ⟨z, its, n, r, hl, e⟩ := I.lstM hH
  refine call_meets F.slot_list_append ⟨_, e, rfl⟩ F.entry_list_append (F.args_list_append_2 _ _) (PySem.list_append l its.toArray n u (by rw [List.size_toArray]; omega)) ⟨e, ?_⟩
  refine ⟨.non, _, I.lset (its' := its ++ [u]) hH e (by simp) (r.append (.cons ru .nil)) ?_, rfl, q⟩
  rw [List.length_append, List.length_singleton]
  omega

noncomputable def rExtend : V → List V → Hp → VK → Prop := fun x vs H Q => ∃ l b xs zs, x = .ref l ∧ vs = [.ref b] ∧ H l = some (.lst xs) ∧ H b = some (.lst zs) ∧ xs.length + zs.length ≤ sizeLine ∧ Q .non (upd H l (.lst (xs ++ zs)))
theorem mt_extend : MtM X "list.extend" rExtend := by
  intro pins s σ H x vs v us Q I rx rv h
  obtain ⟨l, b, xs, zs, rfl, rfl, hH, hB, hz, q⟩ := h
  cases rx
  obtain ⟨u, rfl, ru⟩ := rv.one
  cases ru
  obtain ⟨z, its, n, r, hl, e⟩ := I.lstM hH
  obtain ⟨z2, its2, n2, r2, hl2, e2⟩ := I.lstM hB
  have hsz : its.toArray.size + its2.toArray.size ≤ sizeLine := by rw [List.size_toArray, List.size_toArray]; omega
  have hlong : ¬ (!its.toArray.isEmpty && Builtin.List.listTooLong (its.toArray.size + its2.toArray.size)) = true := by
    rw [notLongL hsz, Bool.and_false]
    exact Bool.false_ne_true
  refine call_meets F.slot_list_extend ⟨_, e, rfl⟩ F.entry_list_extend (F.args_list_extend_2 _ _)
    (AutoSeq1.list_extend_list_list_0 l its.toArray n b its2.toArray n2 hlong (by rw [List.size_toArray]; omega) (by omega)) ⟨e, e2, ?_⟩
  refine ⟨.non, _, I.lset (its' := its ++ its2) hH e (by simp) (r.append r2) ?_, rfl, q⟩
  rw [List.length_append]
  omega

noncomputable def rCat : R2 := fun x y H Q => ∃ l b xs zs, x = .ref l ∧ y = .ref b ∧ H l = some (.lst xs) ∧ H b = some (.lst zs) ∧ xs.length + zs.length ≤ sizeLine ∧ ∀ p, H p = none → Q (.ref p) (upd H p (.lst (xs ++ zs)))
theorem op_cat : OpR X (binaryOp .Add) rCat := by
  intro pins s σ H x y v u Q I rx ry h
  obtain ⟨l, b, xs, zs, rfl, rfl, hH, hB, hz, q⟩ := h
  cases rx
  cases ry
  obtain ⟨z, its, n, r, hl, e⟩ := I.lstM hH
  obtain ⟨z2, its2, n2, r2, hl2, e2⟩ := I.lstM hB
  refine PySem.P.add_list e e2 ?_ (by rw [List.size_toArray, List.size_toArray]; omega)
  have ea : its.toArray ++ its2.toArray = (its ++ its2).toArray := by simp
  rw [ea]
  exact ⟨.ref _, _, I.lnew (t' := s.toks) (r.append r2) (by rw [List.length_append]; omega), rfl, q _ I.fresh⟩

end

section
variable {prog : Program} {w : World} {A : Around} {E : Value → Shared → Prop} {s : Shared}
end

section
variable {X : Cx}
end
end L2
namespace Att
open PySem PySem.W PySem.Calls PyProof.Rows

theorem ints_of_wellAll {P : Params} {h : Heap} : ∀ (ns : List Int) (vs : List Value), WellAll P h vs (ns.map WData.int) → IntsAre vs ns := by
  intro ns
  induction ns with
  | nil =>
    intro vs w
    rw [List.map_nil] at w
    cases w
    exact .nil
  | cons n ns ih =>
    intro vs w
    rw [List.map_cons] at w
    cases w with
    | cons a b =>
      cases a
      exact .cons _ _ (ih _ b)

theorem script_of {l : OpenLaw} {n : Nat} (hn : l.most = some n) {P : Params} {h : Heap} {args : List WData} {vals : List Value}
    (hpre : l.row.toRowW.claim.pre args = true) (hwl : WellAll P h vals args) :
    ∃ a vs ns, vals = [Value.ref a] ∧ args = [WData.list (ns.map WData.int)] ∧ h.get? a = some { cls := .type "list", data := .seq vs.toArray } ∧ IntsAre vs ns ∧ ns.length ≤ n := by
  have hsh : WShape.hasAll [] args [.list .int] = true := (pre_splitW hpre).1
  have hc : l.pre.holds [] { args := args } = true := (pre_splitW hpre).2
  obtain ⟨d, r, rfl, h1, h2⟩ := hasAllW_cons hsh
  obtain rfl := hasAllW_nil h2
  obtain ⟨xs, rfl, h3⟩ := hasW_list h1
  obtain ⟨ns, rfl⟩ := items_int h3
  have hlen : ns.length ≤ n := by
    unfold OpenLaw.pre at hc
    have h4 : (WTm.not (.lt (.lit (.int (n : Int))) (.len (.arg 0)))).holds [] { args := [.list (ns.map .int)] } = true := by
      have h4 := (holds_andW hc).1
      rw [hn] at h4
      exact h4
    have h5 := condW_of h4 (w_not (w_lt w_lit (w_len_list (w_arg rfl))))
    rw [List.length_map] at h5
    refine Nat.le_of_not_lt fun q => ?_
    have q' : (n : Int) < ((ns.length : Nat) : Int) := by omega
    first
      | (rw [decide_eq_true q'] at h5; exact absurd h5 (by decide))
      | (simp at h5; omega)
  cases hwl with
  | cons w1 w2 =>
    cases w2
    cases w1 with
    | list ho hall => exact ⟨_, _, ns, rfl, rfl, ho, ints_of_wellAll ns _ hall, hlen⟩

theorem post_true (l : OpenLaw) (args : List WData) : l.row.toRowW.claim.post args (.bool true) args = true :=
  postW_of (r := l.row.toRowW) (X := (true == true))
    (show WShape.has [] (.bool true) .bool = true by first | rfl | decide | simp [WShape.has, WShape.arms, WShape.armsAll])
    (show (WTm.eq .res (.lit (.bool true))).value [] { args := args, res := some (.bool true), after := args } = some (.bool (true == true)) from w_eq_bool (w_res rfl) w_lit) rfl

theorem attach_call {l : OpenLaw} {n : Nat} {q : Program} {loose : List Str} {XP : (Str → Option Value) → Heap → Prop} {YP : World → Heap → Prop} {d : DefRec}
    (hn : l.most = some n) (hdf : d.params.defaults = [])
    (call : ∀ (w : World) (s₀ s₁ : Shared) (mg mb : Str → Option Value) (fa : Addr) (o : Obj) (pm cd doc : Value) (a : Addr) (vs : List Value) (ns : List Int),
      Ground q loose [] XP w s₀ mg mb s₁.heap → YP w s₁.heap →
      s₁.heap.get? fa = some o → o.data = .func (docDef d.name d.params d.body d.scope pm cd doc) → s₁.heap.CodeRec cd d.name → mg d.name = some (.ref fa) →
      s₁.heap.get? a = some { cls := .type "list", data := .seq vs.toArray } → IntsAre vs ns → ns.length ≤ n → s₁.gens = #[] →
      codeAny (model l.prog w) callerA (.call (.ref fa) ⟨[.ref a], []⟩) (fun r s' => r = .ok (.ret (.bool true)) ∧ OldK s₁.heap s'.heap ∧ s'.os = s₁.os ∧ AllBare s'.gens) s₁) :
    WalkO q loose XP YP l.row.toRowW d [] (fun f vs => PySem.call f vs) := by
  intro w s₀ s₁ mg mb G Y fa o pm cd doc dV kV ho hd hcd hD hmg hg args vals as hpre hlay hrd hwl hlo
  obtain rfl : dV = .none := Dflts.none hD hdf
  obtain rfl : kV = .none := Dflts.noKw hD
  obtain ⟨a, vs, ns, rfl, rfl, hobj, hints, hlen⟩ := script_of hn hpre hwl
  refine enter_call (codeAny_mono (call w s₀ s₁ mg mb fa o pm cd doc a vs ns G Y ho (fd_plain hd) hcd hmg hobj hints hlen hg) fun r s' hq => ?_)
  obtain ⟨rfl, h2, h3, h4⟩ := hq
  exact ⟨.inl ⟨.bool true, .bool true, [], rfl, fun _ => rfl, .bool true, post_true l _, fun _ => ⟨List.Pairwise.nil, fun _ hm => (nomatch hm)⟩⟩, h2, h3, h4⟩

section
variable {prog : Program} {w : World} {A : Around} {E : Value → Shared → Prop} {s : Shared} {K : Frag}

end
end Att

namespace L2
open PySem PySem.Spec PyProof.Rows

theorem vals_ints : ∀ {vs : List Value} {ns : List Int}, IntsAre vs ns → Vals (ns.map V.int) vs
  | _, _, .nil => .nil
  | _, _, .cons n t h => .cons ⟨t, rfl⟩ (vals_ints h)

noncomputable def Only (H : Hp) : Prop := ∀ b, H b = none ∨ ∃ o xs, H b = some (.frz o (.lst xs))

theorem law_call {P : Program} {w : World} {K : PySem.W.Frag} {mg mb : Str → Option Value} {CX : CXT} {k : Nat} {fa a : Addr} {fd : FuncData} {x : Str} {sp : Sp} {s₁ : Shared} {vs : List Value} {ns : List Int}
    (KX : K.In s₁.heap) (hns : s₁.heap.Ns mainGlobals mg) (hb : s₁.heap.Ns builtinsNs mb) (hbb : ∀ x : Str, x ≠ "__name__" → mb x = bootBuiltins x) (hlim : s₁.heap.NoLimit) (hg : s₁.gens = #[])
    (ha : s₁.heap.get? a = some { cls := .type "list", data := .seq vs.toArray }) (hi : IntsAre vs ns) (hl : ns.length ≤ sizeLine) (hr : Room k callerA)
    (F : ∀ base : Heap, K.In base → base.Ns mainGlobals mg → FnOk P w K mg base CX k fa fd [x] sp) (hbind : ∀ (s : Shared) (u : Value), BindsTo s fd ⟨[u], []⟩ [(x, u)])
    (hsp : ∀ H : Hp, Only H → SqL K H a (ns.map V.int) → sp [.ref a] H (fun v _ => v = .bl true) fun _ _ _ => False)
    (hCX : ∀ H e s', CX [] H s₁ (fun _ _ _ => False) e s' → False) :
    codeAny (model P w) callerA (.call (.ref fa) ⟨[.ref a], []⟩) (fun r s' => r = .ok (.ret (.bool true)) ∧ OldK s₁.heap s'.heap ∧ s'.os = s₁.os ∧ AllBare s'.gens) s₁ := by
  have rv := vals_ints hi
  have lenV := hi.length
  -- from an abstract heap in which nothing but the script may be tracked
  have core : ∀ H : Hp, Only H → SqL K H a (ns.map V.int) → HOk P w H s₁.heap → (∀ b, H b ≠ none → b = a) → (H a ≠ none → K.lookup a = none) →
      codeAny (model P w) callerA (.call (.ref fa) ⟨[.ref a], []⟩) (fun r s' => r = .ok (.ret (.bool true)) ∧ OldK s₁.heap s'.heap ∧ s'.os = s₁.os ∧ AllBare s'.gens) s₁ := by
    intro H hO hS hok hA hK
    have base_of : ∀ {b : Addr} {o : Obj}, s₁.heap.get? b = some o → H b = none → (hidT s₁.heap H).get? b = some o := fun e n => hidT_get e n
    have noA : ∀ {b : Addr} {o : Obj} {es : Array DictEntry} {ep : Nat}, s₁.heap.get? b = some o → o.data = .dict es ep → H b = none := fun {b o es ep} e d => by
      cases q : H b with
      | none => rfl
      | some u =>
        have e' : b = a := hA b (by rw [q]; simp)
        subst e'
        rw [ha] at e; cases e
        have d' : Data.seq vs.toArray _ = Data.dict es ep := d
        cases d'
    have nsK : ∀ {b : Addr} {m : Str → Option Value}, s₁.heap.Ns b m → (hidT s₁.heap H).Ns b m := fun {b m} ⟨o, es, ep, e, d, r⟩ => ⟨o, es, ep, base_of e (noA e d), d, r⟩
    have hKb : K.In (hidT s₁.heap H) := fun b o e => base_of (KX b o e) (by
      cases q : H b with
      | none => rfl
      | some u =>
        have e' : b = a := hA b (by rw [q]; simp)
        subst e'
        rw [hK (by rw [q]; simp)] at e; cases e)
    have hM : Mod K mg (hidT s₁.heap H) := ⟨hKb, nsK hns, ⟨mb, nsK hb, hbb⟩, let ⟨mc, h1, h2⟩ := hlim; ⟨mc, nsK h1, h2⟩⟩
    have e0 : Env0 P w K mg (hidT s₁.heap H) callerA [] s₁ H := ⟨rfl, hM, fun b o e => of_hidT e, Nat.le_of_eq (hidT_size _ _), trivial, fun b hb => absurd (show b ∈ ([] : List Addr) from hb) (by simp), hok, .of_eq hg⟩
    refine codeAny_mono ((F _ hKb (nsK hns)).run callerA [] s₁ H ⟨[.ref a], []⟩ [.ref a] [.ref a] _ _ hr e0 (hbind s₁ (.ref a)) (.cons rfl .nil) (hsp H hO hS)) fun r s' h => ?_
    cases r with
    | error e => exact (hCX H e s' h).elim
    | ok fl =>
      cases fl with
      | next => exact False.elim h
      | brk => exact False.elim h
      | cont => exact False.elim h
      | ret u =>
        obtain ⟨v, H', os, bare, un, hok', r', q⟩ := h
        have q' : v = .bl true := q
        subst q'
        obtain rfl : u = Value.bool true := r'
        refine ⟨rfl, OldK.of_keep fun b o e => ?_, os, bare⟩
        cases q : H b with
        | none => exact un.keep b o e q (by intro z; exact absurd (show b ∈ ([] : List Addr) from z) (by simp)) (by simp)
        | some u =>
          rcases hO b with z | ⟨ob, xs, z⟩
          · rw [q] at z; cases z
          · have z2 := un.frzs b ob _ z
            obtain ⟨e1, _⟩ := hok b _ z
            obtain ⟨e2, _⟩ := hok' b _ z2
            rw [e] at e1; cases e1
            exact e2
  cases hk : K.lookup a with
  | some o =>
    -- the script is one of the module's own objects
    have e := KX a o hk
    rw [ha] at e
    cases e
    refine core (fun _ => none) (fun _ => .inl rfl) (.inr ⟨_, vs.toArray, _, hk, rfl, rfl, rfl, by rw [List.size_toArray, lenV]; exact hl, by simpa using rv⟩) (fun b u z => by have z' : (none : Option HO) = some u := z; cases z') (fun b z => absurd rfl z) fun z => absurd rfl z
  | none =>
    refine core (fun b => if b = a then some (.frz { cls := .type "list", data := .seq vs.toArray } (.lst (ns.map V.int))) else none) (fun b => ?_) (.inl (.inr ⟨{ cls := .type "list", data := .seq vs.toArray }, if_pos rfl⟩)) (fun b u z => ?_) (fun b z => ?_) fun _ => hk
    · by_cases hb : b = a
      · exact .inr ⟨_, _, if_pos hb⟩
      · exact .inl (if_neg hb)
    · by_cases hb : b = a
      · have z' := (if_pos hb).symm.trans z
        cases z'
        subst hb
        exact ⟨ha, by rw [List.length_map]; exact hl, vs, _, rv, ha⟩
      · have z' := (if_neg hb).symm.trans z
        cases z'
    · by_cases hb : b = a
      · exact hb
      · exact absurd (if_neg hb) z
end L2

namespace L2
open PySem PySem.Spec PyProof.Rows

theorem walk_of {l : PySem.W.OpenLaw} {n k : Nat} {q : Program} {loose : List Str} {XP : (Str → Option Value) → Heap → Prop} {YP : World → Heap → Prop} {d : DefRec} {K : Params → PySem.W.Frag} {CX : World → CXT} {sp : World → Sp} {x : Str}
    (hn : l.most = some n) (hn2 : n ≤ sizeLine) (hdf : d.params.defaults = []) (hr : Room k callerA)
    (hY : ∀ (w : World) (h : Heap), YP w h → (K w.params).In h)
    (F : ∀ (w : World) (mg : Str → Option Value) (fa : Addr) (h : Heap), (K w.params).In h → h.Ns mainGlobals mg → mg d.name = some (.ref fa) →
      ∃ fd : FuncData, (∀ (s : Shared) (u : Value), BindsTo s fd ⟨[u], []⟩ [(x, u)]) ∧
        ∀ base : Heap, (K w.params).In base → base.Ns mainGlobals mg → FnOk l.prog w (K w.params) mg base (CX w) k fa fd [x] (sp w))
    (hsp : ∀ (w : World) (H : Hp) (a : Addr) (ns : List Int), ns.length ≤ n → Only H → SqL (K w.params) H a (ns.map V.int) → sp w [.ref a] H (fun v _ => v = .bl true) fun _ _ _ => False)
    (hCX : ∀ (w : World) (H : Hp) (s : Shared) (e : Value) (s' : Shared), CX w [] H s (fun _ _ _ => False) e s' → False) :
    PySem.W.WalkO q loose XP YP l.row.toRowW d [] (fun f vs => PySem.call f vs) := by
  refine Att.attach_call hn hdf fun w s₀ s₁ mg mb fa o pm cd doc a vs ns G Y ho hd hcd hmg hobj hints hlen hg => ?_
  have KX := hY w _ Y
  obtain ⟨fd, hb, hF⟩ := F w mg fa _ KX G.T.g hmg
  exact law_call KX G.T.g G.T.b G.T.builtins G.T.nolimit hg hobj hints (Nat.le_trans hlen hn2) hr hF hb (fun H hO hS => hsp w H a ns hlen hO hS) fun H e s' => hCX w H s₁ e s'
theorem walk_ofK {l : PySem.W.OpenLaw} {n k : Nat} {q : Program} {loose : List Str} {XP : (Str → Option Value) → Heap → Prop} {YP : World → Heap → Prop} {d : DefRec} {K : Params → PySem.W.Frag} {CX : CXT} {sp : PySem.W.Frag → Sp} {x : Str}
    (hn : l.most = some n) (hn2 : n ≤ sizeLine) (hdf : d.params.defaults = []) (hr : Room k callerA)
    (hY : ∀ (w : World) (h : Heap), YP w h → (K w.params).In h)
    (F : ∀ (w : World) (mg : Str → Option Value) (fa : Addr) (h : Heap), (K w.params).In h → h.Ns mainGlobals mg → mg d.name = some (.ref fa) →
      ∃ fd : FuncData, (∀ (s : Shared) (u : Value), BindsTo s fd ⟨[u], []⟩ [(x, u)]) ∧
        ∀ base : Heap, (K w.params).In base → base.Ns mainGlobals mg → FnOk l.prog w (K w.params) mg base CX k fa fd [x] (sp (K w.params)))
    (hsp : ∀ (K : PySem.W.Frag) (H : Hp) (a : Addr) (ns : List Int), ns.length ≤ n → Only H → SqL K H a (ns.map V.int) → sp K [.ref a] H (fun v _ => v = .bl true) fun _ _ _ => False)
    (hCX : ∀ (H : Hp) (s : Shared) (e : Value) (s' : Shared), CX [] H s (fun _ _ _ => False) e s' → False) :
    PySem.W.WalkO q loose XP YP l.row.toRowW d [] (fun f vs => PySem.call f vs) :=
  walk_of (K := K) (CX := fun _ => CX) (sp := fun w => sp (K w.params)) hn hn2 hdf hr hY F (fun w H a ns h1 h2 h3 => hsp (K w.params) H a ns h1 h2 h3) fun _ H s e s' => hCX H s e s'
end L2
namespace L2
open PySem PySem.Spec PyProof.Rows

noncomputable def defArgs (s : Stmt) : Arguments := match s with
  | .FunctionDef _ a _ _ _ _ _ _ _ _ => a
  | _ => { posonlyargs := [], args := [], vararg := none, kwonlyargs := [], kw_defaults := [], kwarg := none, defaults := [] }
noncomputable def defBody (s : Stmt) : List Stmt := match s with
  | .FunctionDef _ _ b _ _ _ _ _ _ _ => b
  | _ => []
noncomputable def defScope (s : Stmt) : Scope := match s with
  | .FunctionDef _ _ _ _ _ _ sc _ _ _ => sc
  | _ => { kind := .function, names := [], isGenerator := false, isCoroutine := false }

noncomputable abbrev CX0 : CXT := fun _ _ _ _ _ _ => False
noncomputable abbrev E0 : XK := fun _ _ _ => False
theorem pass0 {X : Cx} : Passes CX0 X E0 := fun _ _ _ _ _ _ _ h => h.elim

structure Fun (K : PySem.W.Frag) (x qual : Str) (st : Stmt) (f : Addr) (fd : FuncData) : Prop where
  ex : ∃ (oc : Value) (od : Option Addr) (kV doc pm : Value) (an : Option Addr) (cdv ct : Value) (osl : Array (Option Value)),
    fd = PySem.W.fnOf x qual (defArgs st) (defBody st) (defScope st) .none kV doc pm an cdv ct ∧ K.lookup f = some ⟨oc, od, .func fd, osl⟩ ∧ PySem.W.codeIn K cdv qual = true
  kp : PySem.W.keepIn K (.ref f) = true
section
variable {P : Program} {w : World} {K : PySem.W.Frag} {mg : Str → Option Value} {base : Heap}
theorem Fun.ok {x qual : Str} {st : Stmt} {f : Addr} {fd : FuncData} {N ps : List Str} {k : Nat} {sp : Sp} (F : Fun K x qual st f fd) (S : FnScope N ps (defScope st)) (len : ∀ vs H Q E, sp vs H Q E → vs.length = ps.length)
    (hbody : ∀ (cdv : Value) (A : Around) (outer : List Env) (s : Shared) (H : Hp) (vs : List V) (Q : VK) (E : XK), Room k (A.deeper (envOfC qual (defScope st) s.heap.objs.size f cdv)) → sp vs H Q E →
      ∃ t, PSs (cxOf CX0 P w K mg base N qual (defScope st) f cdv A outer s H E).nox (defBody st) t ∧ t { nx := fun _ H' => Q .non H', rt := Q } (start N vs) H) : FnOk P w K mg base CX0 (k + 1) f fd ps sp := by
  obtain ⟨oc, od, kV, doc, pm, an, cdv, ct, osl, rfl, lk, hcd⟩ := F.ex
  refine fn_of lk hcd S len fun A outer s H vs Q E hr hsp => ?_
  obtain ⟨t, h, q⟩ := hbody cdv A outer s H vs Q E hr hsp
  exact ⟨t, h.nox, q⟩
theorem Fun.binds {x qual : Str} {st : Stmt} {f : Addr} {fd : FuncData} {ps : List Str} (F : Fun K x qual st f fd)
    (h : ∀ (kV doc pm : Value) (an : Option Addr) (cdv ct : Value) (us : List Value), us.length = ps.length → bindArgs (PySem.W.fnOf x qual (defArgs st) (defBody st) (defScope st) .none kV doc pm an cdv ct) ⟨us, []⟩ = pure (ps.zip us)) : Binds K fd ps [] := by
  obtain ⟨oc, od, kV, doc, pm, an, cdv, ct, osl, rfl, lk, hcd⟩ := F.ex
  exact .all (h kV doc pm an cdv ct)
theorem fun_mk {x qual : Str} {st : Stmt} {f : Addr} {oc : Value} {od an : Option Addr} {osl : Array (Option Value)} {kV doc pm cdv ct : Value} (l : K.lookup f = some ⟨oc, od, .func (PySem.W.fnOf x qual (defArgs st) (defBody st) (defScope st) .none kV doc pm an cdv ct), osl⟩)
    (c : PySem.W.codeIn K cdv qual = true) (k : PySem.W.keepIn K (.ref f) = true) : Fun K x qual st f (PySem.W.fnOf x qual (defArgs st) (defBody st) (defScope st) .none kV doc pm an cdv ct) := ⟨⟨oc, od, kV, doc, pm, an, cdv, ct, osl, rfl, l, c⟩, k⟩
end
theorem small1000 {n : Nat} (h : n ≤ 1000) : n < sizeLine := Nat.lt_of_le_of_lt h (by decide)

section
variable {X : Cx}
theorem pv (i : Nat) {x : Str} {pos : Pos} (hN : X.N[i]? = some x := by rfl) (hv : Vis X.env.scope x := by first | exact Or.inl rfl | exact Or.inr (Or.inl rfl) | exact Or.inr (Or.inr rfl)) (hd : (x == ("__debug__" : Str)) = false := by decide)
    (hcd : (x == ("__classdict__" : Str)) = false := by decide) : PE X (.Name x pos) (tVar i) := pe_var hN hv hd hcd
end

noncomputable def Same (H H' : Hp) : Prop := ∀ b o, H b = some o → H' b = some o
theorem Same.refl (H : Hp) : Same H H := fun _ _ h => h
theorem Same.trans {H H1 H2 : Hp} (a : Same H H1) (b : Same H1 H2) : Same H H2 := fun c o h => b c o (a c o h)
theorem Same.seq {K : PySem.W.Frag} {H H' : Hp} {a : Addr} {xs : List V} (e : Same H H') (h : SqL K H a xs) : SqL K H' a xs := by
  rcases h with (h | ⟨o, h⟩) | h
  · exact .inl (.inl (e _ _ h))
  · exact .inl (.inr ⟨o, e _ _ h⟩)
  · exact .inr h

section
variable {κ : Type} [DecidableEq κ]
end
end L2

set_option Elab.async false
set_option linter.all false
set_option maxRecDepth 100000
namespace M
open PySem PySem.W PySem.Spec PyProof.Rows L2
noncomputable def NF (X:Cx) (a:Addr):Prop:=∀ o u,X.H₀ a ≠ some (.frz o u)
section
variable {X:Cx} {pins:List (Addr × Obj)} {σ:L2.St} {H:Hp} {s:Shared} {a:Addr} {o:Obj} {kvs:List (List Key × V)}
theorem objOk_tag {P:Program} {w:World} {h:Heap} {b:Addr} {u:HO} (e:H a=some (.dT kvs)) (x:ObjOk P w H h b u):ObjOk P w (upd H a (.frz o (.dT kvs))) h b u :=
 x.stay (fun c v _ q=>q) (fun c q=>by rw [upd_ne (ne_of q e (fun z=>nomatch z))]; exact q) fun c xs q=>by rw [upd_ne (ne_of q e (fun z=>nomatch z))]; exact q
theorem _root_.L2.Inv.tag (I:Inv X pins σ H s) (e:H a=some (.dT kvs)) (g:s.heap.get? a=some o):Inv X pins σ (upd H a (.frz o (.dT kvs))) s/\NF X a:=by
 have nn:∀ b,H b=none->b ≠ a:=fun b n z=>by rw [z,e] at n; cases n
 refine ⟨⟨I.ok,I.os,I.bare,⟨I.base.keep,I.base.slot,fun b ob q n hx=>?_,I.base.there,fun b xs q=>?_,fun b ob u q=>?_,fun b ps q=>?_⟩,I.loc,I.cell,?_,fun x c q=>?_,fun p hp=>?_,fun b u q=>?_,I.len⟩,fun ob u q=>?_⟩
 ·have:=I.base.free b ob q n hx
  rw [upd_ne (nn b this)]; exact this
 ·have:=I.base.tups b xs q
  rw [upd_ne (ne_of this e (fun z=>nomatch z))]; exact this
 ·have:=I.base.frzs b ob u q
  rw [upd_ne (ne_of this e (fun z=>nomatch z))]; exact this
 ·obtain ⟨m,this⟩:=I.base.tbls b ps q
  exact ⟨m,by rw [upd_ne (ne_of this e (fun z=>nomatch z))]; exact this⟩
 ·rw [upd_ne (nn _ I.free)]; exact I.free
 ·have:=I.freeC x c q
  rw [upd_ne (nn _ this)]; exact this
 ·obtain ⟨h1,h2,h3⟩:=I.pin p hp
  exact ⟨h1,by rw [upd_ne (nn _ h2)]; exact h2,h3⟩
 ·by_cases hb:b=a
  ·subst hb
   rw [upd_same] at q
   cases q
   exact ⟨g,objOk_tag e (I.hok b _ e)⟩
  ·rw [upd_ne hb] at q
   exact objOk_tag e (I.hok b u q)
 ·have:=I.base.frzs a ob u q
  rw [e] at this; cases this
end

theorem pe_tag {X:Cx} {e:Expr} {t:TE} (h:PE X e t):PE X e (fun σ H Q=>t σ H fun v H'=>Q v H'\/∃ a ws,v=.ref a/\H' a=some (.dT ws)/\∀ o,Q v (upd H' a (.frz o (.dT ws)))):=fun pins s σ H Q I q =>
 thn (h pins s σ H _ I q) fun v s' ⟨x,H',I',r,q⟩=>by
  rcases q with q | ⟨a,ws,rfl,e,q⟩
  ·exact ⟨x,H',I',r,q⟩
  ·obtain ⟨z,y,xs,rr,o,es,ep,h1,h2⟩:=(show ObjOk X.prog X.w H' s'.heap a (.dT ws) from I'.hok a _ e)
   exact ⟨_,_,(I'.tag e h1).1,r,q o⟩
end M

set_option Elab.async false
set_option linter.all false
set_option maxRecDepth 100000
namespace M
open PySem PySem.Spec PyProof.Rows L2

noncomputable abbrev St:=L2.St
inductive D where
 | non | bl (b:Bool) | int (i:Int) | str (s:Str)
 | tup (xs:List D) | lst (xs:List D) | dic (kvs:List (List Int × D))
  | scr (ns:List Int)
instance:Inhabited D:=⟨.non⟩

mutual
noncomputable def Rp (K:PySem.W.Frag) (H:Hp) (O:Addr->Prop):D->V->Prop
 | .non,v=>v=.non
 | .bl b,v=>v=.bl b
 | .int i,v=>v=.int i
 | .str s,v=>v=.str s
 | .tup ds,v=>∃ a vs,v=.ref a/\¬ O a/\H a=some (.tup vs)/\Rps K H O ds vs
 | .lst ds,v=>∃ a vs,v=.ref a/\¬ O a/\H a=some (.lst vs)/\Rps K H O ds vs
 | .dic kvs,v=>∃ a ws,v=.ref a/\¬ O a/\(∃ o,H a=some (.frz o (.dT ws)))/\Rpk K H O kvs ws
 | .scr ns,v=>∃ a,v=.ref a/\((¬ O a/\Rd H a (.lst (ns.map V.int)))\/SqL K (fun _=>none) a (ns.map V.int))
noncomputable def Rps (K:PySem.W.Frag) (H:Hp) (O:Addr->Prop):List D->List V->Prop
 | [],vs=>vs=[]
 | d :: ds,vs=>∃ v r,vs=v :: r/\Rp K H O d v/\Rps K H O ds r
noncomputable def Rpk (K:PySem.W.Frag) (H:Hp) (O:Addr->Prop):List (List Int × D)->List (List Key × V)->Prop
 | [],ws=>ws=[]
 | kd :: r,ws=>∃ v r',ws=(kd.1.map Sum.inl,v) :: r'/\Rpq K H O kd v/\Rpk K H O r r'
noncomputable def Rpq (K:PySem.W.Frag) (H:Hp) (O:Addr->Prop):List Int × D->V->Prop
 | (_,d),v=>Rp K H O d v
end
section
variable {K:PySem.W.Frag} {H H':Hp} {O O':Addr->Prop}
mutual
theorem Rp.mono (s:Same H H') (o:∀ a,O' a->O a):∀ {d:D} {v:V},Rp K H O d v->Rp K H' O' d v
 | .non,_,h=>h
 | .bl _,_,h=>h
 | .int _,_,h=>h
 | .str _,_,h=>h
 | .tup _,_,h=>by
  unfold Rp at h ⊢
  obtain ⟨a,vs,e,no,q,r⟩:=h
  exact ⟨a,vs,e,fun z=>no (o a z),s _ _ q,Rps.mono s o r⟩
 | .lst _,_,h=>by
  unfold Rp at h ⊢
  obtain ⟨a,vs,e,no,q,r⟩:=h
  exact ⟨a,vs,e,fun z=>no (o a z),s _ _ q,Rps.mono s o r⟩
 | .dic _,_,h=>by
  unfold Rp at h ⊢
  obtain ⟨a,vs,e,no,q,r⟩:=h
  exact ⟨a,vs,e,fun z=>no (o a z),q.imp fun _ h=>s _ _ h,Rpk.mono s o r⟩
 | .scr _,_,h=>by
  unfold Rp at h ⊢
  obtain ⟨a,e,⟨no,q⟩ | q⟩:=h
  ·refine ⟨a,e,.inl ⟨fun z=>no (o a z),?_⟩⟩
   rcases q with q | ⟨ob,q⟩
   ·exact .inl (s _ _ q)
   ·exact .inr ⟨ob,s _ _ q⟩
  ·exact ⟨a,e,.inr q⟩
theorem Rps.mono (s:Same H H') (o:∀ a,O' a->O a):∀ {ds:List D} {vs:List V},Rps K H O ds vs->Rps K H' O' ds vs
 | [],_,h=>h
 | _ :: _,_,h=>by
  unfold Rps at h ⊢
  obtain ⟨v,r,e,p,q⟩:=h
  exact ⟨v,r,e,Rp.mono s o p,Rps.mono s o q⟩
theorem Rpk.mono (s:Same H H') (o:∀ a,O' a->O a):∀ {ds:List (List Int × D)} {vs:List (List Key × V)},Rpk K H O ds vs->Rpk K H' O' ds vs
 | [],_,h=>h
 | (_,_) :: _,_,h=>by
  unfold Rpk at h ⊢
  obtain ⟨v,r,e,p,q⟩:=h
  unfold Rpq at p ⊢
  exact ⟨v,r,e,Rp.mono s o p,Rpk.mono s o q⟩
end
theorem Rp.scr {ns:List Int} {v:V} (h:Rp K H O (.scr ns) v):∃ a,v=.ref a/\SqL K H a (ns.map V.int):=by
 unfold Rp at h
 obtain ⟨a,e,⟨_,q⟩ | q⟩:=h
 ·exact ⟨a,e,.inl q⟩
 ·exact ⟨a,e,Same.seq (fun _ _ z=>by cases z) q⟩
mutual
theorem Rp.fresh {a:Addr} (n:H a=none):∀ {d:D} {v:V},Rp K H O d v->Rp K H (fun b=>O b\/b=a) d v
 | .non,_,h=>h
 | .bl _,_,h=>h
 | .int _,_,h=>h
 | .str _,_,h=>h
 | .tup _,_,h=>by
  unfold Rp at h ⊢
  obtain ⟨b,vs,e,no,q,r⟩:=h
  exact ⟨b,vs,e,fun z=>z.elim no fun z=>(by subst z; rw [n] at q; cases q),q,Rps.fresh n r⟩
 | .lst _,_,h=>by
  unfold Rp at h ⊢
  obtain ⟨b,vs,e,no,q,r⟩:=h
  exact ⟨b,vs,e,fun z=>z.elim no fun z=>(by subst z; rw [n] at q; cases q),q,Rps.fresh n r⟩
 | .dic _,_,h=>by
  unfold Rp at h ⊢
  obtain ⟨b,vs,e,no,q,r⟩:=h
  exact ⟨b,vs,e,fun z=>z.elim no fun z=>(by subst z; obtain ⟨_,q⟩:=q; rw [n] at q; cases q),q,Rpk.fresh n r⟩
 | .scr _,_,h=>by
  unfold Rp at h ⊢
  obtain ⟨b,e,⟨no,q⟩ | q⟩:=h
  ·refine ⟨b,e,.inl ⟨fun z=>z.elim no fun z=>?_,q⟩⟩
   subst z
   rcases q with q | ⟨ob,q⟩<;>(rw [n] at q; cases q)
  ·exact ⟨b,e,.inr q⟩
theorem Rps.fresh {a:Addr} (n:H a=none):∀ {ds:List D} {vs:List V},Rps K H O ds vs->Rps K H (fun b=>O b\/b=a) ds vs
 | [],_,h=>h
 | _ :: _,_,h=>by
  unfold Rps at h ⊢
  obtain ⟨v,r,e,p,q⟩:=h
  exact ⟨v,r,e,Rp.fresh n p,Rps.fresh n q⟩
theorem Rpk.fresh {a:Addr} (n:H a=none):∀ {ds:List (List Int × D)} {vs:List (List Key × V)},Rpk K H O ds vs->Rpk K H (fun b=>O b\/b=a) ds vs
 | [],_,h=>h
 | (_,_) :: _,_,h=>by
  unfold Rpk at h ⊢
  obtain ⟨v,r,e,p,q⟩:=h
  unfold Rpq at p ⊢
  exact ⟨v,r,e,Rp.fresh n p,Rpk.fresh n q⟩
end
mutual
theorem Rp.write {a:Addr} {u:HO} (n:O a):∀ {d:D} {v:V},Rp K H O d v->Rp K (upd H a u) O d v
 | .non,_,h=>h
 | .bl _,_,h=>h
 | .int _,_,h=>h
 | .str _,_,h=>h
 | .tup _,_,h=>by
  unfold Rp at h ⊢
  obtain ⟨b,vs,e,no,q,r⟩:=h
  exact ⟨b,vs,e,no,by rw [upd_ne (fun z=>no (by rw [z]; exact n))]; exact q,Rps.write n r⟩
 | .lst _,_,h=>by
  unfold Rp at h ⊢
  obtain ⟨b,vs,e,no,q,r⟩:=h
  exact ⟨b,vs,e,no,by rw [upd_ne (fun z=>no (by rw [z]; exact n))]; exact q,Rps.write n r⟩
 | .dic _,_,h=>by
  unfold Rp at h ⊢
  obtain ⟨b,vs,e,no,q,r⟩:=h
  exact ⟨b,vs,e,no,by rw [upd_ne (fun z=>no (by rw [z]; exact n))]; exact q,Rpk.write n r⟩
 | .scr _,_,h=>by
  unfold Rp at h ⊢
  obtain ⟨b,e,⟨no,q⟩ | q⟩:=h
  ·refine ⟨b,e,.inl ⟨no,?_⟩⟩
   have hb:b ≠ a:=fun z=>no (by rw [z]; exact n)
   unfold Rd
   rw [upd_ne hb]; exact q
  ·exact ⟨b,e,.inr q⟩
theorem Rps.write {a:Addr} {u:HO} (n:O a):∀ {ds:List D} {vs:List V},Rps K H O ds vs->Rps K (upd H a u) O ds vs
 | [],_,h=>h
 | _ :: _,_,h=>by
  unfold Rps at h ⊢
  obtain ⟨v,r,e,p,q⟩:=h
  exact ⟨v,r,e,Rp.write n p,Rps.write n q⟩
theorem Rpk.write {a:Addr} {u:HO} (n:O a):∀ {ds:List (List Int × D)} {vs:List (List Key × V)},Rpk K H O ds vs->Rpk K (upd H a u) O ds vs
 | [],_,h=>h
 | (_,_) :: _,_,h=>by
  unfold Rpk at h ⊢
  obtain ⟨v,r,e,p,q⟩:=h
  unfold Rpq at p ⊢
  exact ⟨v,r,e,Rp.write n p,Rpk.write n q⟩
end
mutual
theorem Rp.move (m:∀ a o,¬ O a->H a=some o->H' a=some o/\¬ O' a):∀ {d:D} {v:V},Rp K H O d v->Rp K H' O' d v
 | .non,_,h=>h
 | .bl _,_,h=>h
 | .int _,_,h=>h
 | .str _,_,h=>h
 | .tup _,_,h=>by
  unfold Rp at h ⊢
  obtain ⟨b,vs,e,no,q,r⟩:=h
  exact ⟨b,vs,e,(m _ _ no q).2,(m _ _ no q).1,Rps.move m r⟩
 | .lst _,_,h=>by
  unfold Rp at h ⊢
  obtain ⟨b,vs,e,no,q,r⟩:=h
  exact ⟨b,vs,e,(m _ _ no q).2,(m _ _ no q).1,Rps.move m r⟩
 | .dic _,_,h=>by
  unfold Rp at h ⊢
  obtain ⟨b,vs,e,no,q,r⟩:=h
  exact ⟨b,vs,e,(m _ _ no q.choose_spec).2,q.imp fun _ h=>(m _ _ no h).1,Rpk.move m r⟩
 | .scr _,_,h=>by
  unfold Rp at h ⊢
  obtain ⟨b,e,⟨no,q⟩ | q⟩:=h
  ·refine ⟨b,e,.inl ?_⟩
   rcases q with q | ⟨ob,q⟩
   ·exact ⟨(m _ _ no q).2,.inl (m _ _ no q).1⟩
   ·exact ⟨(m _ _ no q).2,.inr ⟨ob,(m _ _ no q).1⟩⟩
  ·exact ⟨b,e,.inr q⟩
theorem Rps.move (m:∀ a o,¬ O a->H a=some o->H' a=some o/\¬ O' a):∀ {ds:List D} {vs:List V},Rps K H O ds vs->Rps K H' O' ds vs
 | [],_,h=>h
 | _ :: _,_,h=>by
  unfold Rps at h ⊢
  obtain ⟨v,r,e,p,q⟩:=h
  exact ⟨v,r,e,Rp.move m p,Rps.move m q⟩
theorem Rpk.move (m:∀ a o,¬ O a->H a=some o->H' a=some o/\¬ O' a):∀ {ds:List (List Int × D)} {vs:List (List Key × V)},Rpk K H O ds vs->Rpk K H' O' ds vs
 | [],_,h=>h
 | (_,_) :: _,_,h=>by
  unfold Rpk at h ⊢
  obtain ⟨v,r,e,p,q⟩:=h
  unfold Rpq at p ⊢
  exact ⟨v,r,e,Rp.move m p,Rpk.move m q⟩
end
theorem Rps.nil:Rps K H O [] []:=rfl
theorem Rps.cons {d:D} {v:V} {ds:List D} {vs:List V} (h:Rp K H O d v) (r:Rps K H O ds vs):Rps K H O (d :: ds) (v :: vs):=by
 unfold Rps; exact ⟨v,vs,rfl,h,r⟩
theorem Rps.length:∀ {ds:List D} {vs:List V},Rps K H O ds vs->vs.length=ds.length
 | [],_,h=>by unfold Rps at h; subst h; rfl
 | _ :: _,_,h=>by
  unfold Rps at h
  obtain ⟨v,r,rfl,p,q⟩:=h
  simp [Rps.length q]
theorem Rps.get:∀ {ds:List D} {vs:List V} {i:Nat} {d:D},Rps K H O ds vs->ds[i]?=some d->∃ v,vs[i]?=some v/\Rp K H O d v
 | [],_,_,_,_,e=>by simp at e
 | _ :: _,_,0,_,h,e=>by
  unfold Rps at h
  obtain ⟨v,r,rfl,p,q⟩:=h
  simp at e; subst e
  exact ⟨v,rfl,p⟩
 | _ :: _,_,i + 1,_,h,e=>by
  unfold Rps at h
  obtain ⟨v,r,rfl,p,q⟩:=h
  simp at e
  obtain ⟨u,h1,h2⟩:=Rps.get q e
  exact ⟨u,by simpa using h1,h2⟩
theorem Rps.append:∀ {ds es:List D} {vs ws:List V},Rps K H O ds vs->Rps K H O es ws->Rps K H O (ds++es) (vs++ws)
 | [],_,_,_,h,g=>by unfold Rps at h; subst h; exact g
 | _ :: _,_,_,_,h,g=>by
  unfold Rps at h
  obtain ⟨v,r,rfl,p,q⟩:=h
  exact Rps.cons p (Rps.append q g)
theorem Rps.take:∀ {ds:List D} {vs:List V} (n:Nat),Rps K H O ds vs->Rps K H O (ds.take n) (vs.take n)
 | _,_,0,_=>by simp; exact Rps.nil
 | [],_,n + 1,h=>by unfold Rps at h; subst h; simp; exact Rps.nil
 | _ :: _,_,n + 1,h=>by
  unfold Rps at h
  obtain ⟨v,r,rfl,p,q⟩:=h
  exact Rps.cons p (Rps.take n q)
theorem Rps.drop:∀ {ds:List D} {vs:List V} (n:Nat),Rps K H O ds vs->Rps K H O (ds.drop n) (vs.drop n)
 | _,_,0,h=>by simpa using h
 | [],_,n + 1,h=>by unfold Rps at h; subst h; simp; exact Rps.nil
 | _ :: _,_,n + 1,h=>by
  unfold Rps at h
  obtain ⟨v,r,rfl,p,q⟩:=h
  simpa using Rps.drop n q
theorem Rps.set {d:D} {v:V} (p:Rp K H O d v):∀ {ds:List D} {vs:List V} (n:Nat),Rps K H O ds vs->Rps K H O (ds.set n d) (vs.set n v)
 | [],_,n,h=>by unfold Rps at h; subst h; simp; exact Rps.nil
 | _ :: _,_,0,h=>by
  unfold Rps at h
  obtain ⟨_,r,rfl,_,q⟩:=h
  exact Rps.cons p q
 | _ :: _,_,n + 1,h=>by
  unfold Rps at h
  obtain ⟨_,r,rfl,p',q⟩:=h
  exact Rps.cons p' (Rps.set p n q)
end

inductive R (α:Type) where
 | ok (a:α) | er (c:Nat) | no
noncomputable def R.bind {α β:Type}:R α->(α->R β)->R β
 | .ok a,f=>f a
 | .er c,_=>.er c
 | .no,_=>.no
instance:Monad R where
 pure:=R.ok
 bind:=R.bind
@[simp] theorem R.ok_bind {α β:Type} (a:α) (f:α->R β):(R.ok a >>= f)=f a:=rfl
@[simp] theorem R.er_bind {α β:Type} (c:Nat) (f:α->R β):(R.er c >>= f)=R.er c:=rfl
@[simp] theorem R.no_bind {α β:Type} (f:α->R β):((R.no:R α) >>= f)=R.no:=rfl
@[simp] theorem R.pure_ok {α:Type} (a:α):(pure a:R α)=R.ok a:=rfl
noncomputable def Fin {α:Type} (r:R α) (p:α->Prop) (x:Nat->Prop):Prop:=match r with
 | .ok a=>p a
 | .er c=>x c
 | .no=>False
theorem Fin.bind {α β:Type} {r:R α} {f:α->R β} {p:β->Prop} {x:Nat->Prop} (h:Fin (r >>= f) p x):Fin r (fun a=>Fin (f a) p x) x:=by
 cases r<;>exact h
theorem Fin.mono {α:Type} {r:R α} {p q:α->Prop} {x:Nat->Prop} (h:Fin r p x) (f:∀ a,p a->q a):Fin r q x:=by
 cases r with
 | ok a=>exact f a h
 | er c=>exact h
 | no=>exact h

inductive Sl where
 | un | fz (d:D) | ow (d:D)
noncomputable abbrev Ev:=List Sl
structure Fc where
 h0:Hp
 pr:Addr->Prop
 xc:Nat->Prop
noncomputable def Ow (pr:Addr->Prop) (E:Ev) (σ:St) (a:Addr):Prop:=pr a\/∃ (i:Nat) (d:D),E[i]?=some (.ow d)/\σ[i]?=some (some (.ref a))
noncomputable def Own (K:PySem.W.Frag) (H:Hp) (O:Addr->Prop):D->Addr->Prop
 | .lst ds,a=>∃ vs,H a=some (.lst vs)/\Rps K H O ds vs
 | .dic kvs,a=>∃ ws,H a=some (.dT ws)/\Rpk K H O kvs ws
 | _,_=>False
theorem Own.mono {K:PySem.W.Frag} {H H':Hp} {O O':Addr->Prop} {d:D} {a:Addr} (s:Same H H') (o:∀ a,O' a->O a) (h:Own K H O d a):Own K H' O' d a:=by
 cases d with
 | lst ds=>obtain ⟨vs,e,r⟩:=h; exact ⟨vs,s _ _ e,r.mono s o⟩
 | dic ds=>obtain ⟨vs,e,r⟩:=h; exact ⟨vs,s _ _ e,r.mono s o⟩
 | _=>exact h
noncomputable def NoTup:HO->Prop
 | .tup _=>False
 | _=>True
noncomputable def Sane (H:Hp) (O:Addr->Prop):Prop:=∀ a,O a->∃ o,H a=some o/\NoTup o
theorem Sane.fr {H:Hp} {O:Addr->Prop} (h:Sane H O) {p:Addr} (hp:H p=none):¬ O p:=fun z=>by
 obtain ⟨o,e,_⟩:=h p z
 rw [hp] at e; cases e
theorem Sane.tup {H:Hp} {O:Addr->Prop} (h:Sane H O) {p:Addr} {vs:List V} (hp:H p=some (.tup vs)):¬ O p:=fun z=>by
 obtain ⟨o,e,n⟩:=h p z
 rw [hp] at e; cases e; exact n
theorem Own.there {K:PySem.W.Frag} {H:Hp} {O:Addr->Prop} {d:D} {a:Addr} (h:Own K H O d a):∃ o,H a=some o/\NoTup o:=by
 cases d with
 | lst ds=>obtain ⟨vs,e,r⟩:=h; exact ⟨_,e,True.intro⟩
 | dic ds=>obtain ⟨vs,e,r⟩:=h; exact ⟨_,e,True.intro⟩
 | _=>exact h.elim
noncomputable def isDic:D->Bool
 | .dic _=>true
 | _=>false
theorem Own.rp {K:PySem.W.Frag} {H:Hp} {O:Addr->Prop} {d:D} {a:Addr} (h:Own K H O d a) (no:¬ O a) (hd:isDic d=false):Rp K H O d (.ref a):=by
 cases d with
 | lst ds=>obtain ⟨vs,e,r⟩:=h; unfold Rp; exact ⟨a,vs,rfl,no,e,r⟩
 | dic ds=>cases hd
 | _=>exact h.elim
section
variable {K:PySem.W.Frag} {H:Hp} {O:Addr->Prop} {a:Addr} {ob:Obj} {kvs:List (List Key × V)}
mutual
theorem Rp.tag (n:H a=some (.dT kvs)):∀ {d:D} {v:V},Rp K H O d v->Rp K (upd H a (.frz ob (.dT kvs))) O d v
 | .non,_,h=>h
 | .bl _,_,h=>h
 | .int _,_,h=>h
 | .str _,_,h=>h
 | .tup _,_,h=>by
  unfold Rp at h ⊢
  obtain ⟨b,vs,e,no,q,r⟩:=h
  exact ⟨b,vs,e,no,by rw [upd_ne (fun z=>by rw [z,n] at q; cases q)]; exact q,Rps.tag n r⟩
 | .lst _,_,h=>by
  unfold Rp at h ⊢
  obtain ⟨b,vs,e,no,q,r⟩:=h
  exact ⟨b,vs,e,no,by rw [upd_ne (fun z=>by rw [z,n] at q; cases q)]; exact q,Rps.tag n r⟩
 | .dic _,_,h=>by
  unfold Rp at h ⊢
  obtain ⟨b,vs,e,no,⟨o,q⟩,r⟩:=h
  exact ⟨b,vs,e,no,⟨o,by rw [upd_ne (fun z=>by rw [z,n] at q; cases q)]; exact q⟩,Rpk.tag n r⟩
 | .scr _,_,h=>by
  unfold Rp at h ⊢
  obtain ⟨b,e,⟨no,q⟩ | q⟩:=h
  ·refine ⟨b,e,.inl ⟨no,?_⟩⟩
   have hb:b ≠ a:=fun z=>by
    subst z
    rcases q with q | ⟨o,q⟩<;>(rw [n] at q; cases q)
   unfold Rd
   rw [upd_ne hb]; exact q
  ·exact ⟨b,e,.inr q⟩
theorem Rps.tag (n:H a=some (.dT kvs)):∀ {ds:List D} {vs:List V},Rps K H O ds vs->Rps K (upd H a (.frz ob (.dT kvs))) O ds vs
 | [],_,h=>h
 | _ :: _,_,h=>by
  unfold Rps at h ⊢
  obtain ⟨v,r,e,p,q⟩:=h
  exact ⟨v,r,e,Rp.tag n p,Rps.tag n q⟩
theorem Rpk.tag (n:H a=some (.dT kvs)):∀ {ds:List (List Int × D)} {vs:List (List Key × V)},Rpk K H O ds vs->Rpk K (upd H a (.frz ob (.dT kvs))) O ds vs
 | [],_,h=>h
 | (_,_) :: _,_,h=>by
  unfold Rpk at h ⊢
  obtain ⟨v,r,e,p,q⟩:=h
  unfold Rpq at p ⊢
  exact ⟨v,r,e,Rp.tag n p,Rpk.tag n q⟩
end
end
theorem Own.tagged {K:PySem.W.Frag} {H:Hp} {O:Addr->Prop} {ds:List (List Int × D)} {a:Addr} (h:Own K H O (.dic ds) a) (no:¬ O a):∃ ws,H a=some (.dT ws)/\∀ o,Rp K (upd H a (.frz o (.dT ws))) O (.dic ds) (.ref a):=by
 obtain ⟨ws,e,r⟩:=h
 refine ⟨ws,e,fun o=>?_⟩
 unfold Rp
 exact ⟨a,ws,rfl,no,⟨o,upd_same⟩,r.tag e⟩
structure Rel (K:PySem.W.Frag) (G:Fc) (E:Ev) (σ:St) (H:Hp):Prop where
 len:E.length=σ.length
 fz:∀ (i:Nat) d,E[i]?=some (.fz d)->∃ v,σ[i]?=some (some v)/\Rp K H (Ow G.pr E σ) d v
 ow:∀ (i:Nat) d,E[i]?=some (.ow d)->∃ a,σ[i]?=some (some (.ref a))/\Own K H (Ow G.pr E σ) d a/\G.h0 a=none
 ne:∀ (i j:Nat) d e a,E[i]?=some (.ow d)->E[j]?=some (.ow e)->σ[i]?=some (some (.ref a))->σ[j]?=some (some (.ref a))->i=j
 base:Same G.h0 H
 prt:∀ a,G.pr a->∃ o,G.h0 a=some o/\NoTup o
section
variable {K:PySem.W.Frag} {G:Fc} {E:Ev} {σ:St} {H H':Hp}
theorem Rel.same (r:Rel K G E σ H) (s:Same H H'):Rel K G E σ H' where
 len:=r.len
 fz:=fun i d e=>by obtain ⟨v,h1,h2⟩:=r.fz i d e; exact ⟨v,h1,h2.mono s fun _ z=>z⟩
 ow:=fun i d e=>by obtain ⟨a,h1,h2,h3⟩:=r.ow i d e; exact ⟨a,h1,h2.mono s fun _ z=>z,h3⟩
 ne:=r.ne
 base:=r.base.trans s
 prt:=r.prt
theorem Rel.owned (r:Rel K G E σ H) {a:Addr} (h:Ow G.pr E σ a):∃ o,H a=some o/\NoTup o:=by
 rcases h with h | ⟨i,d,h1,h2⟩
 ·obtain ⟨o,e,n⟩:=r.prt a h
  exact ⟨o,r.base _ _ e,n⟩
 ·obtain ⟨b,e1,e2,_⟩:=r.ow i d h1
  rw [h2] at e1; cases e1
  exact e2.there
theorem Rel.fresh (r:Rel K G E σ H) {a:Addr} (h:H a=none):¬ Ow G.pr E σ a:=fun z=>by
 obtain ⟨o,e,_⟩:=r.owned z
 rw [h] at e; cases e
theorem Rel.sane (r:Rel K G E σ H):Sane H (Ow G.pr E σ):=fun a h=>r.owned h
end
theorem same_upd {H:Hp} {p:Addr} {o:HO} (h:H p=none):Same H (upd H p o):=fun b u e=>by
 rw [upd_ne (ne_of_none e h)]; exact e

noncomputable def Rt (K:PySem.W.Frag) (H:Hp) (O:Addr->Prop) (d:D) (v:V):Prop:=Rp K H O d v\/∃ a,v=.ref a/\Own K H O d a
theorem Rt.mono {K:PySem.W.Frag} {H H':Hp} {O O':Addr->Prop} {d:D} {v:V} (s:Same H H') (o:∀ a,O' a->O a) (h:Rt K H O d v):Rt K H' O' d v:=by
 rcases h with h | ⟨a,e,h⟩
 ·exact .inl (h.mono s o)
 ·exact .inr ⟨a,e,h.mono s o⟩
section
variable {K:PySem.W.Frag} {H:Hp} {O:Addr->Prop} {v:V}
theorem Rt.int {i:Int} (h:Rt K H O (.int i) v):v=.int i:=by
 rcases h with h | ⟨a,e,h⟩
 ·exact h
 ·exact h.elim
theorem Rt.bl {i:Bool} (h:Rt K H O (.bl i) v):v=.bl i:=by
 rcases h with h | ⟨a,e,h⟩
 ·exact h
 ·exact h.elim
theorem Rt.str {i:Str} (h:Rt K H O (.str i) v):v=.str i:=by
 rcases h with h | ⟨a,e,h⟩
 ·exact h
 ·exact h.elim
theorem Rt.non (h:Rt K H O .non v):v=.non:=by
 rcases h with h | ⟨a,e,h⟩
 ·exact h
 ·exact h.elim
theorem Rt.lst {ds:List D} (h:Rt K H O (.lst ds) v):∃ a vs,v=.ref a/\H a=some (.lst vs)/\Rps K H O ds vs:=by
 rcases h with h | ⟨a,e,vs,q,r⟩
 ·unfold Rp at h
  obtain ⟨a,vs,e,_,q,r⟩:=h
  exact ⟨a,vs,e,q,r⟩
 ·exact ⟨a,vs,e,q,r⟩
theorem Rt.tup {ds:List D} (h:Rt K H O (.tup ds) v):∃ a vs,v=.ref a/\H a=some (.tup vs)/\Rps K H O ds vs:=by
 rcases h with h | ⟨a,e,h⟩
 ·unfold Rp at h
  obtain ⟨a,vs,e,_,q,r⟩:=h
  exact ⟨a,vs,e,q,r⟩
 ·exact h.elim
theorem Rt.dic {ds:List (List Int × D)} (h:Rt K H O (.dic ds) v):∃ a vs,v=.ref a/\Rd H a (.dT vs)/\Rpk K H O ds vs:=by
 rcases h with h | ⟨a,e,vs,q,r⟩
 ·unfold Rp at h
  obtain ⟨a,vs,e,_,q,r⟩:=h
  exact ⟨a,vs,e,.inr q,r⟩
 ·exact ⟨a,vs,e,.inl q,r⟩
end

noncomputable abbrev EV:=Ev->R D
inductive Out where
 | nx (E:Ev) | bk (E:Ev) | ct (E:Ev) | rt (d:D)
noncomputable abbrev EX:=Ev->R Out

noncomputable def SE (X:Cx) (G:Fc) (e:Expr) (m:EV):Prop :=
 PE X e fun σ H Q=>∃ E,Rel X.K G E σ H/\Fin (m E) (fun d=>∀ v H',Same H H'->Rt X.K H' (Ow G.pr E σ) d v->Q v H') G.xc
noncomputable def SF (X:Cx) (G:Fc) (e:Expr) (m:EV):Prop :=
 PE X e fun σ H Q=>∃ E,Rel X.K G E σ H/\Fin (m E) (fun d=>∀ v H',Same H H'->Rp X.K H' (Ow G.pr E σ) d v->Q v H') G.xc
noncomputable def SN (X:Cx) (G:Fc) (e:Expr) (m:EV):Prop :=
 PE X e fun σ H Q=>∃ E,Rel X.K G E σ H/\Fin (m E) (fun d=>∀ a H',Same H H'->H a=none->Own X.K H' (fun b=>Ow G.pr E σ b\/b=a) d a->Q (.ref a) H') G.xc
noncomputable def ST (X:Cx) (G:Fc) (e:Expr) (m:Ev->R Bool):Prop :=
 PT X e fun σ H Q=>∃ E,Rel X.K G E σ H/\Fin (m E) (fun b=>∀ H',Same H H'->Q b H') G.xc
noncomputable def SA (X:Cx) (G:Fc) (es:List Expr) (m:Ev->R (List D)):Prop :=
 PA X es fun σ H Q=>∃ E,Rel X.K G E σ H/\Fin (m E) (fun ds=>∀ vs H',Same H H'->Rps X.K H' (Ow G.pr E σ) ds vs->Q vs H') G.xc
noncomputable def OutOk (K:PySem.W.Frag) (G:Fc) (Dn:Ends):Out->Prop
 | .nx E=>∀ σ H,Rel K G E σ H->Dn.nx σ H
 | .bk E=>∀ σ H,Rel K G E σ H->Dn.bk σ H
 | .ct E=>∀ σ H,Rel K G E σ H->Dn.ct σ H
 | .rt d=>∀ v H,Same G.h0 H->Rp K H G.pr d v->Dn.rt v H
noncomputable def SS (X:Cx) (G:Fc) (st:Stmt) (m:EX):Prop :=
 PS X st fun Dn σ H=>∃ E,Rel X.K G E σ H/\Fin (m E) (OutOk X.K G Dn) G.xc
noncomputable def SB (X:Cx) (G:Fc) (st:List Stmt) (m:EX):Prop :=
 PSs X st fun Dn σ H=>∃ E,Rel X.K G E σ H/\Fin (m E) (OutOk X.K G Dn) G.xc

theorem _root_.L2.PE.imp {X:Cx} {e:Expr} {t t':TE} (h:PE X e t) (i:∀ σ H Q,t' σ H Q->t σ H Q):PE X e t':=fun pins s σ H Q I q=>h pins s σ H Q I (i σ H Q q)
theorem _root_.L2.PT.imp {X:Cx} {e:Expr} {t t':TT} (h:PT X e t) (i:∀ σ H Q,t' σ H Q->t σ H Q):PT X e t':=fun pins s σ H Q I q=>h pins s σ H Q I (i σ H Q q)
theorem _root_.L2.PA.imp {X:Cx} {e:List Expr} {t t':TA} (h:PA X e t) (i:∀ σ H Q,t' σ H Q->t σ H Q):PA X e t':=fun pos pins s σ H Q I q=>h pos pins s σ H Q I (i σ H Q q)
theorem _root_.L2.PS.imp {X:Cx} {e:Stmt} {t t':TS} (h:PS X e t) (i:∀ D σ H,t' D σ H->t D σ H):PS X e t':=fun pins s σ H Q I q=>h pins s σ H Q I (i Q σ H q)
theorem _root_.L2.PSs.imp {X:Cx} {e:List Stmt} {t t':TS} (h:PSs X e t) (i:∀ D σ H,t' D σ H->t D σ H):PSs X e t':=fun pins s σ H Q I q=>h pins s σ H Q I (i Q σ H q)

section
variable {X:Cx} {G:Fc} {e:Expr} {m:EV}
theorem SF.se (h:SF X G e m):SE X G e m:=PE.imp h fun σ H Q ⟨E,r,f⟩=>⟨E,r,f.mono fun d q v H' s p=>q v H' s (.inl p)⟩
theorem SN.sf (h:SN X G e m):SF X G e m:=PE.imp (pe_tag h) fun σ H Q ⟨E,r,f⟩=>⟨E,r,f.mono fun d q a H' s n p=>by
 have p':=p.mono (O':=Ow G.pr E σ) (Same.refl _) fun _ z=>.inl z
 cases hd:isDic d with
 | false=>exact .inl (q (.ref a) H' s (p'.rp (r.fresh n) hd))
 | true =>
  cases d with
  | dic ds =>
   obtain ⟨ws,e,z⟩:=p'.tagged (r.fresh n)
   exact .inr ⟨a,ws,rfl,e,fun o=>q (.ref a) _ (fun b u hb=>by rw [upd_ne (ne_of_none hb n)]; exact s _ _ hb) (z o)⟩
  | _=>cases hd⟩
theorem SN.se (h:SN X G e m):SE X G e m:=h.sf.se
theorem rt_grow {K:PySem.W.Frag} {H H':Hp} {O:Addr->Prop} {d:D} {v:V} (h:Rt K H O d v) (s:Same H H'):Rt K H' O d v:=h.mono s fun _ z=>z
end
end M

set_option Elab.async false
set_option linter.all false
set_option maxRecDepth 100000
namespace M
open PySem PySem.Spec PyProof.Rows L2

noncomputable def ofO {α:Type}:Option α->R α
 | some a=>.ok a
 | none=>.no
@[simp] theorem ofO_some {α:Type} (a:α):ofO (some a)=.ok a:=rfl
@[simp] theorem ofO_none {α:Type}:ofO (none:Option α)=.no:=rfl
theorem Fin.of {α:Type} {o:Option α} {p:α->Prop} {x:Nat->Prop} (h:Fin (ofO o) p x):∃ a,o=some a/\p a:=by
 cases o with
 | none=>exact h.elim
 | some a=>exact ⟨a,rfl,h⟩

noncomputable def vE (i:Nat):EV:=fun E=>match E[i]? with
 | some (.fz d)=>.ok d
 | some (.ow d)=>.ok d
 | _=>.no
noncomputable def vF (i:Nat):EV:=fun E=>match E[i]? with
 | some (.fz d)=>.ok d
 | _=>.no
noncomputable def kE (d:D):EV:=fun _=>.ok d
noncomputable def e1 (f:D->Option D) (a:EV):EV:=fun E=>a E >>= fun x=>ofO (f x)
noncomputable def e2 (f:D->D->Option D) (a b:EV):EV:=fun E=>a E >>= fun x=>b E >>= fun y=>ofO (f x y)
noncomputable def aNil:Ev->R (List D):=fun _=>.ok []
noncomputable def aCons (a:EV) (r:Ev->R (List D)):Ev->R (List D):=fun E=>a E >>= fun x=>r E >>= fun xs=>.ok (x :: xs)
noncomputable def tstB (a:EV):Ev->R Bool:=fun E=>a E >>= fun d=>match d with
 | .bl b=>.ok b
 | _=>.no

section
variable {X:Cx} {G:Fc}

theorem se_var (i:Nat) {x:Str} {pos:Pos} (hN:X.N[i]?=some x:=by rfl) (hv:Vis X.env.scope x:=by first | exact Or.inl rfl | exact Or.inr (Or.inl rfl) | exact Or.inr (Or.inr rfl)) (hd:(x == ("__debug__":Str))=false:=by decide)
  (hcd:(x == ("__classdict__":Str))=false:=by decide):SE X G (.Name x pos) (vE i):=(pe_var hN hv hd hcd).imp fun σ H Q z0=>z0.elim fun E z0=>z0.elim fun r f=>by
 unfold vE at f
 revert f
 cases h:E[i]? with
 | none=>exact fun f=>f.elim
 | some sl =>
  cases sl with
  | un=>exact fun f=>f.elim
  | fz d=>exact fun f=>by obtain ⟨v,e,p⟩:=r.fz i d h; exact ⟨v,e,f v H (Same.refl _) (.inl p)⟩
  | ow d=>exact fun f=>by obtain ⟨a,e,p,_⟩:=r.ow i d h; exact ⟨_,e,f _ H (Same.refl _) (.inr ⟨a,rfl,p⟩)⟩
theorem sf_var (i:Nat) {x:Str} {pos:Pos} (hN:X.N[i]?=some x:=by rfl) (hv:Vis X.env.scope x:=by first | exact Or.inl rfl | exact Or.inr (Or.inl rfl) | exact Or.inr (Or.inr rfl)) (hd:(x == ("__debug__":Str))=false:=by decide)
  (hcd:(x == ("__classdict__":Str))=false:=by decide):SF X G (.Name x pos) (vF i):=(pe_var hN hv hd hcd).imp fun σ H Q z0=>z0.elim fun E z0=>z0.elim fun r f=>by
 unfold vF at f
 revert f
 cases h:E[i]? with
 | none=>exact fun f=>f.elim
 | some sl =>
  cases sl with
  | un=>exact fun f=>f.elim
  | fz d=>exact fun f=>by obtain ⟨v,e,p⟩:=r.fz i d h; exact ⟨v,e,f v H (Same.refl _) p⟩
  | ow d=>exact fun f=>f.elim
theorem sf_int {i j pos}:SF X G (.Constant (.int i) j pos) (kE (.int i)):=pe_int.imp fun σ H Q z0=>z0.elim fun E z0=>z0.elim fun r f=>f _ H (Same.refl _) rfl
theorem sf_bl {i j pos}:SF X G (.Constant (.bool i) j pos) (kE (.bl i)):=pe_bl.imp fun σ H Q z0=>z0.elim fun E z0=>z0.elim fun r f=>f _ H (Same.refl _) rfl
theorem sf_str {i j pos}:SF X G (.Constant (.str i) j pos) (kE (.str i)):=pe_str.imp fun σ H Q z0=>z0.elim fun E z0=>z0.elim fun r f=>f _ H (Same.refl _) rfl
theorem sf_glob {x:Str} {i:Int} {u:Value} {pos:Pos} (hg:Gl X x) (hm:X.mg x=some u) (r:RelV (.int i) u) (hd:(x == ("__debug__":Str))=false:=by decide):SF X G (.Name x pos) (kE (.int i)) :=
 (pe_glob hg hm r hd).imp fun σ H Q z0=>z0.elim fun E z0=>z0.elim fun r f=>f _ H (Same.refl _) rfl

noncomputable def OpD (K:PySem.W.Frag) (r:R2) (f:D->D->Option D):Prop :=
 ∀ (H:Hp) (O:Addr->Prop) (dx dy d:D) (v w:V) (Q:VK),Sane H O->f dx dy=some d->Rt K H O dx v->Rt K H O dy w->(∀ u H',Same H H'->Rp K H' O d u->Q u H')->r v w H Q
theorem two {r:R2} {f:D->D->Option D} {ma mb:EV} {a b:Expr} {P:D->Prop} {σ:St} {H:Hp} {Q:VK} {E:Ev} (hr:Rel X.K G E σ H) (h:Fin (e2 f ma mb E) P G.xc)
  (k:∀ (H2:Hp) (dx dy d:D) (v w:V),Same H H2->f dx dy=some d->P d->Rt X.K H2 (Ow G.pr E σ) dx v->Rt X.K H2 (Ow G.pr E σ) dy w->r v w H2 Q) :
  tOp r (fun σ H Q=>∃ E,Rel X.K G E σ H/\Fin (ma E) (fun d=>∀ v H',Same H H'->Rt X.K H' (Ow G.pr E σ) d v->Q v H') G.xc)
   (fun σ H Q=>∃ E,Rel X.K G E σ H/\Fin (mb E) (fun d=>∀ v H',Same H H'->Rt X.K H' (Ow G.pr E σ) d v->Q v H') G.xc) σ H Q:=by
 refine ⟨E,hr,(Fin.bind h).mono fun dx fx v H1 s1 p1=>⟨E,hr.same s1,(Fin.bind fx).mono fun dy fy w H2 s2 p2=>?_⟩⟩
 obtain ⟨d,e,q⟩:=Fin.of fy
 exact k H2 dx dy d v w (s1.trans s2) e q (rt_grow p1 s2) p2
section
variable {a b:Expr} {ma mb:EV} {pos:Pos} {f:D->D->Option D} {r:R2}
theorem sf_bin {op:Operator} (ho:OpR X (binaryOp op) r) (hf:OpD X.K r f) (ha:SE X G a ma) (hb:SE X G b mb):SF X G (.BinOp a op b pos) (e2 f ma mb) :=
 (pe_op ho ha hb).imp fun σ H Q z0=>z0.elim fun E z0=>z0.elim fun hr h=>two (a:=a) (b:=b) hr h fun H2 dx dy d v w s e p rv rw=>hf H2 _ dx dy d v w Q (hr.same s).sane e rv rw fun u H' s' z=>p u H' (s.trans s') z
theorem sf_cmp {op:CmpOp} (ho:OpR X (compareOp op) r) (hf:OpD X.K r f) (ha:SE X G a ma) (hb:SE X G b mb) (hm:behindInMarks op b=false):SF X G (.Compare a [op] [b] pos) (e2 f ma mb) :=
 (pe_cmpR ho ha hb hm).imp fun σ H Q z0=>z0.elim fun E z0=>z0.elim fun hr h=>two (a:=a) (b:=b) hr h fun H2 dx dy d v w s e p rv rw=>hf H2 _ dx dy d v w Q (hr.same s).sane e rv rw fun u H' s' z=>p u H' (s.trans s') z
theorem sf_ix (hs:PlainIx b) (ho:IxR X r) (hf:OpD X.K r f) (ha:SE X G a ma) (hb:SE X G b mb):SF X G (.Subscript a b pos) (e2 f ma mb) :=
 (pe_ix ho ha hb hs).imp fun σ H Q z0=>z0.elim fun E z0=>z0.elim fun hr h=>two (a:=a) (b:=b) hr h fun H2 dx dy d v w s e p rv rw=>hf H2 _ dx dy d v w Q (hr.same s).sane e rv rw fun u H' s' z=>p u H' (s.trans s') z
theorem st_cmp {op:CmpOp} (ho:OpR X (compareOp op) r) (hf:OpD X.K r f) (ha:SE X G a ma) (hb:SE X G b mb) (hm:behindInMarks op b=false):ST X G (.Compare a [op] [b] pos) (tstB (e2 f ma mb)) :=
 (pt_cmpR ho ha hb hm).imp fun σ H Q z0=>z0.elim fun E z0=>z0.elim fun hr h=>by
  refine two (a:=a) (b:=b) (P:=fun d=>Fin (match d with | .bl b=>R.ok b | _=>.no) (fun b=>∀ H',Same H H'->Q b H') G.xc) hr (Fin.bind h) fun H2 dx dy d v w s e p rv rw=>hf H2 _ dx dy d v w _ (hr.same s).sane e rv rw fun u H' s' z=>?_
  cases d with
  | bl k=>exact ⟨k,z,p H' (s.trans s')⟩
  | _=>exact p.elim
theorem st_val {e:Expr} {m:EV} (h:SE X G e m) (he:∀ whole,isTrue e X.env whole=(do let v ← whole; standAt e.pos; holding [v] (truthy v)):=by intro _; rfl):ST X G e (tstB m) :=
 (pt_val h he).imp fun σ H Q z0=>z0.elim fun E z0=>z0.elim fun hr f=>⟨E,hr,(Fin.bind f).mono fun d p v H' s z=>by
  cases d with
  | bl k=>exact ⟨k,z.bl,p H' s⟩
  | _=>exact p.elim⟩
end

noncomputable def truD:D->Option Bool
 | .non=>some false
 | .bl b=>some b
 | .int i=>some (i != 0)
 | .lst ds=>some (!ds.isEmpty)
 | .tup ds=>some (!ds.isEmpty)
 | _=>none
noncomputable def tstV (a:EV):Ev->R Bool:=fun E=>a E >>= fun d=>ofO (truD d)

section
variable {a b c:Expr} {ma mb:EV} {pos:Pos} {ta tb tc:Ev->R Bool} {rest:List Expr}
noncomputable def bAnd (t u:Ev->R Bool):Ev->R Bool:=fun E=>t E >>= fun k=>if k=true then u E else .ok false
noncomputable def bOr (t u:Ev->R Bool):Ev->R Bool:=fun E=>t E >>= fun k=>if k=true then .ok true else u E
noncomputable def bNot (t:Ev->R Bool):Ev->R Bool:=fun E=>t E >>= fun k=>.ok (!k)
noncomputable def SW (X:Cx) (G:Fc) (e:Expr) (m:Ev->R Bool):Prop :=
 PW X e fun σ H Q=>∃ E,Rel X.K G E σ H/\Fin (m E) (fun b=>∀ H',Same H H'->Q b H') G.xc
theorem SW.st {m:Ev->R Bool} (h:SW X G a m):ST X G a m:=PW.pt h
theorem sw_and1 (ha:ST X G a ta):SW X G (.BoolOp .And [a] pos) ta:=pw_and1 ha
theorem sw_or1 (ha:ST X G a ta):SW X G (.BoolOp .Or [a] pos) ta:=pw_or1 ha
theorem sw_and (ha:ST X G a ta) (hb:SW X G (.BoolOp .And (b :: rest) pos) tb):SW X G (.BoolOp .And (a :: b :: rest) pos) (bAnd ta tb):=by
 rintro wh pins s σ H Q I ⟨E,hr,f⟩
 refine pw_and ha hb wh pins s σ H Q I ⟨E,hr,(Fin.bind f).mono fun k p H' s'=>?_⟩
 cases k with
 | true=>exact ⟨E,hr.same s',Fin.mono p fun b q H2 s2=>q H2 (s'.trans s2)⟩
 | false=>exact p H' s'
theorem sw_or (ha:ST X G a ta) (hb:SW X G (.BoolOp .Or (b :: rest) pos) tb):SW X G (.BoolOp .Or (a :: b :: rest) pos) (bOr ta tb):=by
 rintro wh pins s σ H Q I ⟨E,hr,f⟩
 refine pw_or ha hb wh pins s σ H Q I ⟨E,hr,(Fin.bind f).mono fun k p H' s'=>?_⟩
 cases k with
 | false=>exact ⟨E,hr.same s',Fin.mono p fun b q H2 s2=>q H2 (s'.trans s2)⟩
 | true=>exact p H' s'
theorem st_not (ha:ST X G a ta):ST X G (.UnaryOp .Not a pos) (bNot ta):=(pt_not ha).imp fun σ H Q ⟨E,hr,f⟩=>⟨E,hr,(Fin.bind f).mono fun k p H' s=>p H' s⟩
noncomputable def eAnd (t u:EV):EV:=fun E=>t E >>= fun d=>match d with
 | .bl true=>u E
 | .bl false=>.ok (.bl false)
 | _=>.no
noncomputable def eOr (t u:EV):EV:=fun E=>t E >>= fun d=>match d with
 | .bl true=>.ok (.bl true)
 | .bl false=>u E
 | _=>.no
noncomputable def eNot (t:EV):EV:=fun E=>t E >>= fun d=>match d with
 | .bl k=>.ok (.bl (!k))
 | _=>.no
theorem sf_one {op} (ha:SF X G a ma):SF X G (.BoolOp op [a] pos) ma:=pe_one ha
theorem sf_and (ha:SF X G a ma) (hb:SF X G (.BoolOp .And (b :: rest) pos) mb):SF X G (.BoolOp .And (a :: b :: rest) pos) (eAnd ma mb) :=
 (pe_and ha hb).imp fun σ H Q z0=>z0.elim fun E z0=>z0.elim fun hr f=>⟨E,hr,(Fin.bind f).mono fun d p v H' s z=>by
  cases d with
  | bl k =>
   refine ⟨k,z,?_⟩
   cases k with
   | true=>exact ⟨E,hr.same s,Fin.mono p fun b q u H2 s2 y=>q u H2 (s.trans s2) y⟩
   | false=>exact p _ H' s rfl
  | _=>exact p.elim⟩
noncomputable def eIf (t:Ev->R Bool) (a b:EV):EV:=fun E=>t E >>= fun k=>if k=true then a E else b E
theorem sf_if (hc:ST X G c tc) (ha:SF X G a ma) (hb:SF X G b mb):SF X G (.IfExp c a b pos) (eIf tc ma mb) :=
 (pe_ifExp hc ha hb).imp fun σ H Q z0=>z0.elim fun E z0=>z0.elim fun hr f=>⟨E,hr,(Fin.bind f).mono fun k p H' s=>by
  cases k with
  | true=>exact ⟨E,hr.same s,Fin.mono p fun b q u H2 s2 y=>q u H2 (s.trans s2) y⟩
  | false=>exact ⟨E,hr.same s,Fin.mono p fun b q u H2 s2 y=>q u H2 (s.trans s2) y⟩⟩
end

section
variable {e:Expr} {es:List Expr} {m:EV} {t:Ev->R (List D)} {pos:Pos}
theorem sa_nil:SA X G [] aNil:=pa_nil.imp fun σ H Q z0=>z0.elim fun E z0=>z0.elim fun hr f=>f [] H (Same.refl _) rfl
theorem sa_cons (he:SF X G e m) (hr:SA X G es t) (hs:starEach (e :: es) X.env=(false,eval e X.env) :: starEach es X.env:=by rfl):SA X G (e :: es) (aCons m t) :=
 (pa_cons he hr hs).imp fun σ H Q ⟨E,hr,f⟩=>⟨E,hr,(Fin.bind f).mono fun d fx v H1 s1 p1=>⟨E,hr.same s1,(Fin.bind fx).mono fun ds fy vs H2 s2 p2 =>
  fy (v :: vs) H2 (s1.trans s2) (Rps.cons (p1.mono s2 fun _ z=>z) p2)⟩⟩
noncomputable def eTup (t:Ev->R (List D)):EV:=fun E=>t E >>= fun ds=>if ds.length<=1000 then .ok (.tup ds) else .no
noncomputable def eLst (t:Ev->R (List D)):EV:=fun E=>t E >>= fun ds=>if ds.length<=1000 then .ok (.lst ds) else .no
theorem sf_tup {x1} (h:SA X G es t):SF X G (.Tuple es x1 pos) (eTup t) :=
 (pe_tup h).imp fun σ H Q z0=>z0.elim fun E z0=>z0.elim fun hr f=>⟨E,hr,(Fin.bind f).mono fun ds fx vs H1 s1 p1=>by
  by_cases hl:ds.length<=1000
  ·rw [if_pos hl] at fx
   refine ⟨by rw [p1.length]; exact Nat.le_of_lt (small1000 hl),fun p hp=>fx _ _ (s1.trans (same_upd hp)) ?_⟩
   unfold Rp
   exact ⟨p,vs,rfl,(hr.same s1).fresh hp,upd_same,p1.mono (same_upd hp) fun _ z=>z⟩
  ·rw [if_neg hl] at fx; exact fx.elim⟩
theorem sn_lst (h:SA X G es t):SN X G (.List es pos) (eLst t) :=
 (pe_lst h).imp fun σ H Q z0=>z0.elim fun E z0=>z0.elim fun hr f=>⟨E,hr,(Fin.bind f).mono fun ds fx vs H1 s1 p1=>by
  by_cases hl:ds.length<=1000
  ·rw [if_pos hl] at fx
   refine ⟨by rw [p1.length]; exact Nat.le_of_lt (small1000 hl),fun p hp=>fx _ _ (s1.trans (same_upd hp)) ?_ ?_⟩
   ·cases q:H p with
    | none=>rfl
    | some o=>rw [s1 _ _ q] at hp; cases hp
   exact ⟨vs,upd_same,(p1.fresh hp).mono (same_upd hp) fun _ z=>z⟩
  ·rw [if_neg hl] at fx; exact fx.elim⟩
theorem sn_dic:SN X G (.Dict [] [] pos) (kE (.dic [])):=pe_dnewT.imp fun σ H Q z0=>z0.elim fun E z0=>z0.elim fun hr f=>fun p hp=>f p _ (same_upd hp) hp ⟨[],upd_same,rfl⟩
end
end
end M

set_option Elab.async false
set_option linter.all false
set_option maxRecDepth 100000
namespace M
open PySem PySem.Spec PyProof.Rows L2

noncomputable def b2i (b:Bool):Int:=if b=true then 1 else 0
mutual
noncomputable def pl:Nat->D->Bool
 | _,.non=>true
 | _,.bl _=>true
 | _,.int _=>true
 | _,.str _=>true
 | 0,.tup _=>false
 | 0,.lst _=>false
 | n + 1,.tup ds=>pls n ds
 | n + 1,.lst ds=>pls n ds
 | _,_=>false
noncomputable def pls:Nat->List D->Bool
 | _,[]=>true
 | n,d :: ds=>pl n d && pls n ds
end
mutual
noncomputable def eqb:D->D->Bool
 | .non,.non=>true
 | .bl a,.bl b=>a == b
 | .int a,.int b=>a == b
 | .bl a,.int b=>b2i a == b
 | .int a,.bl b=>a == b2i b
 | .str a,.str b=>a == b
 | .tup as,.tup bs=>eqbs as bs
 | .lst as,.lst bs=>eqbs as bs
 | _,_=>false
noncomputable def eqbs:List D->List D->Bool
 | [],[]=>true
 | a :: as,b :: bs=>eqb a b && eqbs as bs
 | _,_=>false
end
mutual
theorem eqb_refl:∀ (n:Nat) (d:D),pl n d=true->eqb d d=true
 | _,.non,_=>by simp [eqb]
 | _,.bl _,_=>by simp [eqb]
 | _,.int _,_=>by simp [eqb]
 | _,.str _,_=>by simp [eqb]
 | 0,.tup _,h=>by simp [pl] at h
 | 0,.lst _,h=>by simp [pl] at h
 | n + 1,.tup ds,h=>by rw [eqb]; rw [pl] at h; exact eqbs_refl n ds h
 | n + 1,.lst ds,h=>by rw [eqb]; rw [pl] at h; exact eqbs_refl n ds h
 | _,.dic _,h=>by simp [pl] at h
 | _,.scr _,h=>by simp [pl] at h
theorem eqbs_refl:∀ (n:Nat) (ds:List D),pls n ds=true->eqbs ds ds=true
 | _,[],_=>by simp [eqbs]
 | n,d :: ds,h=>by
  rw [pls,Bool.and_eq_true] at h
  rw [eqbs,eqb_refl n d h.1,eqbs_refl n ds h.2]; rfl
end
section
variable {K:PySem.W.Frag} {H:Hp} {O:Addr->Prop}
noncomputable abbrev NoO:Addr->Prop:=fun _=>False
theorem Rt.any {d:D} {v:V} {n:Nat} (h:Rt K H O d v) (hp:pl n d=true):Rp K H NoO d v:=by
 rcases h with h | ⟨a,rfl,h⟩
 ·exact h.mono (Same.refl _) fun _ z=>z.elim
 ·refine (h.mono (Same.refl _) fun _ z=>z.elim).rp (fun z=>z) ?_
  cases d with
  | dic ds=>simp [pl] at hp
  | _=>rfl
mutual
theorem Rp.inj:∀ {n m:Nat} {d d':D} {v:V},pl n d=true->pl m d'=true->Rp K H O d v->Rp K H O d' v->d=d'
 | n,m,.non,d',v,h,h',r,r'=>by
  unfold Rp at r; subst r
  cases d'<;>unfold Rp at r'<;>first | rfl | (cases r'; done) | (obtain ⟨_,_,e,_⟩:=r'; cases e) | (obtain ⟨_,e,_⟩:=r'; cases e)
 | n,m,.bl b,d',v,h,h',r,r'=>by
  unfold Rp at r; subst r
  cases d'<;>unfold Rp at r'<;>first | (cases r'; rfl) | (cases r'; done) | (obtain ⟨_,_,e,_⟩:=r'; cases e) | (obtain ⟨_,e,_⟩:=r'; cases e)
 | n,m,.int b,d',v,h,h',r,r'=>by
  unfold Rp at r; subst r
  cases d'<;>unfold Rp at r'<;>first | (cases r'; rfl) | (cases r'; done) | (obtain ⟨_,_,e,_⟩:=r'; cases e) | (obtain ⟨_,e,_⟩:=r'; cases e)
 | n,m,.str b,d',v,h,h',r,r'=>by
  unfold Rp at r; subst r
  cases d'<;>unfold Rp at r'<;>first | (cases r'; rfl) | (cases r'; done) | (obtain ⟨_,_,e,_⟩:=r'; cases e) | (obtain ⟨_,e,_⟩:=r'; cases e)
 | n,m,.tup ds,d',v,h,h',r,r'=>by
  unfold Rp at r
  obtain ⟨a,vs,rfl,_,q,rs⟩:=r
  cases n with
  | zero=>simp [pl] at h
  | succ n =>
  cases d' with
  | tup ds' =>
   cases m with
   | zero=>simp [pl] at h'
   | succ m =>
   unfold Rp at r'
   obtain ⟨b,ws,e,_,q',rs'⟩:=r'
   cases e
   rw [q] at q'; cases q'
   rw [pl] at h h'
   rw [Rps.inj h h' rs rs']
  | lst ds'=>unfold Rp at r'; obtain ⟨b,ws,e,_,q',rs'⟩:=r'; cases e; rw [q] at q'; cases q'
  | dic _=>simp [pl] at h'
  | scr _=>simp [pl] at h'
  | _=>unfold Rp at r'; cases r'
 | n,m,.lst ds,d',v,h,h',r,r'=>by
  unfold Rp at r
  obtain ⟨a,vs,rfl,_,q,rs⟩:=r
  cases n with
  | zero=>simp [pl] at h
  | succ n =>
  cases d' with
  | lst ds' =>
   cases m with
   | zero=>simp [pl] at h'
   | succ m =>
   unfold Rp at r'
   obtain ⟨b,ws,e,_,q',rs'⟩:=r'
   cases e
   rw [q] at q'; cases q'
   rw [pl] at h h'
   rw [Rps.inj h h' rs rs']
  | tup ds'=>unfold Rp at r'; obtain ⟨b,ws,e,_,q',rs'⟩:=r'; cases e; rw [q] at q'; cases q'
  | dic _=>simp [pl] at h'
  | scr _=>simp [pl] at h'
  | _=>unfold Rp at r'; cases r'
 | n,m,.dic ds,d',v,h,h',r,r'=>by simp [pl] at h
 | n,m,.scr ds,d',v,h,h',r,r'=>by simp [pl] at h
theorem Rps.inj:∀ {n m:Nat} {ds ds':List D} {vs:List V},pls n ds=true->pls m ds'=true->Rps K H O ds vs->Rps K H O ds' vs->ds=ds'
 | n,m,[],ds',vs,h,h',r,r'=>by
  unfold Rps at r; subst r
  cases ds' with
  | nil=>rfl
  | cons _ _=>unfold Rps at r'; obtain ⟨_,_,e,_⟩:=r'; cases e
 | n,m,d :: ds,ds',vs,h,h',r,r'=>by
  unfold Rps at r
  obtain ⟨v,rr,rfl,p,q⟩:=r
  cases ds' with
  | nil=>unfold Rps at r'; cases r'
  | cons d' ds' =>
   unfold Rps at r'
   obtain ⟨v',rr',e,p',q'⟩:=r'
   cases e
   rw [pls,Bool.and_eq_true] at h h'
   rw [Rp.inj h.1 h'.1 p p',Rps.inj h.2 h'.2 q q']
end
end

theorem eqbs_len:∀ {as bs:List D},as.length ≠ bs.length->eqbs as bs=false
 | [],[],h=>absurd rfl h
 | [],_ :: _,_=>by simp [eqbs]
 | _ :: _,[],_=>by simp [eqbs]
 | a :: as,b :: bs,h=>by
  rw [eqbs,eqbs_len (fun z=>h (by simp [z]))]; simp
theorem eqbs_range:∀ {as bs:List D},as.length=bs.length->eqbs as bs=(List.range as.length).all fun i=>eqb (as.getD i .non) (bs.getD i .non)
 | [],[],_=>by simp [eqbs]
 | a :: as,b :: bs,h=>by
  rw [eqbs,eqbs_range (by simpa using h)]
  simp only [List.length_cons,List.range_succ_eq_map,List.all_cons,List.all_map]
  rfl
 | [],_ :: _,h=>by simp at h
 | _ :: _,[],h=>by simp at h

section
variable {X:Cx} {pins:List (Addr × Obj)} {σ:St} {H:Hp} {s:Shared} {O:Addr->Prop}
theorem rps_at {ds:List D} {vs:List V} {its:List Value} (r:Rps X.K H O ds vs) (q:Vals vs its) (j:Nat) (h:j < its.length):∃ v,Rp X.K H O (ds.getD j .non) v/\RelV v its[j]:=by
 have h1:j < vs.length:=by rw [q.length]; exact h
 have h2:j < ds.length:=by rw [<-r.length]; exact h1
 obtain ⟨v,e,p⟩:=r.get (i:=j) (d:=ds[j]) (by simp [h2])
 obtain ⟨u,e2,p2⟩:=q.get e
 refine ⟨v,?_,?_⟩
 ·simpa [List.getD,h2] using p
 ·rw [List.getElem?_eq_getElem h] at e2; cases e2; exact p2
theorem pls_getD:∀ {n:Nat} {ds:List D},pls n ds=true->∀ j,pl n (ds.getD j .non)=true
 | n,[],_,j=>by simp [pl]
 | n,d :: ds,h,0=>by rw [pls,Bool.and_eq_true] at h; exact h.1
 | n,d :: ds,h,j + 1=>by rw [pls,Bool.and_eq_true] at h; exact pls_getD h.2 j
noncomputable def scD:D->Bool
 | .non=>true | .bl _=>true | .int _=>true | .str _=>true
 | _=>false
theorem eq_scal {m:Nat} {A:Around} {dx dy:D} {v w:V} {u u':Value} (I:Inv X pins σ H s) (hu:A.units < cLine) (px:scD dx=true) (py:pl m dy=true) (rx:Rp X.K H O dx v) (ry:Rp X.K H O dy w) (qx:RelV v u) (qy:RelV w u'):SeqAt.EqAt A s u u' (eqb dx dy):=by
 have two:∀ {b w},Rp X.K H O b w->(∃ es,b=.tup es)\/(∃ es,b=.lst es)->∀ {z},RelV w z->∃ a its,z=.ref a/\(((∃ es,b=.tup es)/\s.heap.IsTuple a its)\/((∃ es,b=.lst es)/\s.heap.IsList a its)):=fun {b w} r h z q=>by
  rcases h with ⟨es,rfl⟩ | ⟨es,rfl⟩
  ·unfold Rp at r
   obtain ⟨a,vs,rfl,_,q',rs⟩:=r
   cases q
   obtain ⟨its,vr,ht,hz⟩:=I.tuple (SqT.of q')
   exact ⟨a,_,rfl,.inl ⟨⟨es,rfl⟩,ht⟩⟩
  ·unfold Rp at r
   obtain ⟨a,vs,rfl,_,q',rs⟩:=r
   cases q
   obtain ⟨its,vr,ht,hz⟩:=I.list (SqL.of q')
   exact ⟨a,_,rfl,.inr ⟨⟨es,rfl⟩,ht.isList⟩⟩
 cases dx with
 | tup _=>cases px
 | lst _=>cases px
 | dic _=>cases px
 | scr _=>cases px
 | non =>
  unfold Rp at rx; subst rx; cases qx
  cases dy with
  | non=>unfold Rp at ry; subst ry; cases qy; exact SeqAt.EqAt.same _
  | bl _=>unfold Rp at ry; subst ry; cases qy; exact SeqAt.EqAt.none_bool _
  | int _=>unfold Rp at ry; subst ry; obtain ⟨t,rfl⟩:=qy; exact SeqAt.EqAt.none_int _ _
  | str _=>unfold Rp at ry; subst ry; obtain ⟨t,rfl⟩:=qy; exact SeqAt.EqAt.none_str _ _
  | dic _=>simp [pl] at py
  | scr _=>simp [pl] at py
  | tup es =>
   obtain ⟨a,its,rfl,⟨_,ht⟩ | ⟨⟨_,e⟩,ht⟩⟩:=two ry (.inl ⟨_,rfl⟩) qy
   ·exact SeqAt.EqAt.none_tuple ht hu
   ·cases e
  | lst es =>
   obtain ⟨a,its,rfl,⟨⟨_,e⟩,ht⟩ | ⟨_,ht⟩⟩:=two ry (.inr ⟨_,rfl⟩) qy
   ·cases e
   ·exact SeqAt.EqAt.none_list ht hu
 | bl _ =>
  unfold Rp at rx; subst rx; cases qx
  cases dy with
  | non=>unfold Rp at ry; subst ry; cases qy; exact SeqAt.EqAt.bool_none _
  | bl _=>unfold Rp at ry; subst ry; cases qy; exact SeqAt.EqAt.bool_bool _ _
  | int _=>unfold Rp at ry; subst ry; obtain ⟨t,rfl⟩:=qy; exact SeqAt.EqAt.bool_int _ _ _
  | str _=>unfold Rp at ry; subst ry; obtain ⟨t,rfl⟩:=qy; exact SeqAt.EqAt.bool_str _ _ _
  | dic _=>simp [pl] at py
  | scr _=>simp [pl] at py
  | tup es =>
   obtain ⟨a,its,rfl,⟨_,ht⟩ | ⟨⟨_,e⟩,ht⟩⟩:=two ry (.inl ⟨_,rfl⟩) qy
   ·exact SeqAt.EqAt.bool_tuple _ ht hu
   ·cases e
  | lst es =>
   obtain ⟨a,its,rfl,⟨⟨_,e⟩,ht⟩ | ⟨_,ht⟩⟩:=two ry (.inr ⟨_,rfl⟩) qy
   ·cases e
   ·exact SeqAt.EqAt.bool_list _ ht hu
 | int _ =>
  unfold Rp at rx; subst rx; obtain ⟨t0,rfl⟩:=qx
  cases dy with
  | non=>unfold Rp at ry; subst ry; cases qy; exact SeqAt.EqAt.int_none _ _
  | bl _=>unfold Rp at ry; subst ry; cases qy; exact SeqAt.EqAt.int_bool _ _ _
  | int _=>unfold Rp at ry; subst ry; obtain ⟨t,rfl⟩:=qy; exact SeqAt.EqAt.int_int _ _ _ _
  | str _=>unfold Rp at ry; subst ry; obtain ⟨t,rfl⟩:=qy; exact SeqAt.EqAt.int_str _ _ _ _
  | dic _=>simp [pl] at py
  | scr _=>simp [pl] at py
  | tup es =>
   obtain ⟨a,its,rfl,⟨_,ht⟩ | ⟨⟨_,e⟩,ht⟩⟩:=two ry (.inl ⟨_,rfl⟩) qy
   ·exact SeqAt.EqAt.int_tuple _ _ ht hu
   ·cases e
  | lst es =>
   obtain ⟨a,its,rfl,⟨⟨_,e⟩,ht⟩ | ⟨_,ht⟩⟩:=two ry (.inr ⟨_,rfl⟩) qy
   ·cases e
   ·exact SeqAt.EqAt.int_list _ _ ht hu
 | str _ =>
  unfold Rp at rx; subst rx; obtain ⟨t0,rfl⟩:=qx
  cases dy with
  | non=>unfold Rp at ry; subst ry; cases qy; exact SeqAt.EqAt.str_none _ _
  | bl _=>unfold Rp at ry; subst ry; cases qy; exact SeqAt.EqAt.str_bool _ _ _
  | int _=>unfold Rp at ry; subst ry; obtain ⟨t,rfl⟩:=qy; exact SeqAt.EqAt.str_int _ _ _ _
  | str _=>unfold Rp at ry; subst ry; obtain ⟨t,rfl⟩:=qy; exact SeqAt.EqAt.str_str _ _ _ _
  | dic _=>simp [pl] at py
  | scr _=>simp [pl] at py
  | tup es =>
   obtain ⟨a,its,rfl,⟨_,ht⟩ | ⟨⟨_,e⟩,ht⟩⟩:=two ry (.inl ⟨_,rfl⟩) qy
   ·exact SeqAt.EqAt.str_tuple _ _ ht hu
   ·cases e
  | lst es =>
   obtain ⟨a,its,rfl,⟨⟨_,e⟩,ht⟩ | ⟨_,ht⟩⟩:=two ry (.inr ⟨_,rfl⟩) qy
   ·cases e
   ·exact SeqAt.EqAt.str_list _ _ ht hu
theorem eq_at:∀ (n m:Nat) (A:Around) (dx dy:D) (v w:V) (u u':Value),Inv X pins σ H s->A.units + n < cLine->pl n dx=true->pl m dy=true->Rp X.K H O dx v->Rp X.K H O dy w->RelV v u->RelV w u'->SeqAt.EqAt A s u u' (eqb dx dy):=by
 intro n
 induction n with
 | zero =>
  intro m A dx dy v w u u' I hu px py rx ry qx qy
  cases dx with
  | tup _=>simp [pl] at px
  | lst _=>simp [pl] at px
  | dic _=>simp [pl] at px
  | scr _=>simp [pl] at px
  | non=>exact eq_scal I (by omega) rfl py rx ry qx qy
  | bl _=>exact eq_scal I (by omega) rfl py rx ry qx qy
  | int _=>exact eq_scal I (by omega) rfl py rx ry qx qy
  | str _=>exact eq_scal I (by omega) rfl py rx ry qx qy
 | succ n ih =>
  intro m A dx dy v w u u' I hu px py rx ry qx qy
  cases dx with
  | dic _=>simp [pl] at px
  | scr _=>simp [pl] at px
  | non=>exact eq_scal I (by omega) rfl py rx ry qx qy
  | bl _=>exact eq_scal I (by omega) rfl py rx ry qx qy
  | int _=>exact eq_scal I (by omega) rfl py rx ry qx qy
  | str _=>exact eq_scal I (by omega) rfl py rx ry qx qy
  | tup ds =>
   have rx':=rx
   unfold Rp at rx
   obtain ⟨a,vs,rfl,_,q,rs⟩:=rx
   cases qx
   obtain ⟨its,vr,ht,hz⟩:=I.tuple (SqT.of q)
   have ht:s.heap.IsTuple a its.toArray:=ht
   cases dy with
   | non=>unfold Rp at ry; subst ry; cases qy; exact SeqAt.EqAt.tuple_none ht (by omega)
   | bl _=>unfold Rp at ry; subst ry; cases qy; exact SeqAt.EqAt.tuple_bool _ ht (by omega)
   | int _=>unfold Rp at ry; subst ry; obtain ⟨t,rfl⟩:=qy; exact SeqAt.EqAt.tuple_int _ _ ht (by omega)
   | str _=>unfold Rp at ry; subst ry; obtain ⟨t,rfl⟩:=qy; exact SeqAt.EqAt.tuple_str _ _ ht (by omega)
   | dic _=>simp [pl] at py
   | scr _=>simp [pl] at py
   | lst es =>
    unfold Rp at ry
    obtain ⟨b,ws,rfl,_,q',rs'⟩:=ry
    cases qy
    obtain ⟨its',vr',ht',hz'⟩:=I.list (SqL.of q')
    exact SeqAt.EqAt.tuple_list ht ht'.isList (by omega)
   | tup es =>
    cases m with
    | zero=>simp [pl] at py
    | succ m =>
    have ry':=ry
    unfold Rp at ry
    obtain ⟨b,ws,rfl,_,q',rs'⟩:=ry
    cases qy
    by_cases hab:a=b
    ·subst hab
     have e:=Rp.inj px py rx' ry'
     rw [<-e,eqb_refl _ _ px]
     exact SeqAt.EqAt.same _
    ·obtain ⟨its',vr',ht',hz'⟩:=I.tuple (SqT.of q')
     have ht':s.heap.IsTuple b its'.toArray:=ht'
     rw [pl] at px py
     have l1:its.length=ds.length:=by rw [<-vr.length,rs.length]
     have l2:its'.length=es.length:=by rw [<-vr'.length,rs'.length]
     refine SeqAt.EqAt.of_refs hab ?_
     have main:=SeqAt.RcAt.tuples (A:=A) (e:=fun j=>eqb (ds.getD j .non) (es.getD j .non)) ht ht' (by omega) (fun j h1 h2=>by
      simp only [List.size_toArray] at h1 h2
      obtain ⟨v1,p1,p2⟩:=rps_at (X:=X) rs vr j h1
      obtain ⟨v2,p3,p4⟩:=rps_at (X:=X) rs' vr' j h2
      have:=ih m A.in1 (ds.getD j .non) (es.getD j .non) v1 v2 _ _ I (by rw [units_in1]; omega) (pls_getD px j) (pls_getD py j) p1 p3 p2 p4
      simpa using this)
     rw [eqb]
     by_cases hl:ds.length=es.length
     ·rw [eqbs_range hl]
      simp only [List.size_toArray,l1,l2,hl,Nat.min_self,beq_self_eq_true,Bool.and_true] at main
      rw [hl]; exact main
     ·rw [eqbs_len hl]
      simp only [List.size_toArray,l1,l2] at main
      rw [beq_eq_false_iff_ne.mpr hl,Bool.and_false] at main
      exact main
  | lst ds =>
   have rx':=rx
   unfold Rp at rx
   obtain ⟨a,vs,rfl,_,q,rs⟩:=rx
   cases qx
   obtain ⟨its,vr,ht,hz⟩:=I.list (SqL.of q)
   have ht:=ht.isList
   cases dy with
   | non=>unfold Rp at ry; subst ry; cases qy; exact SeqAt.EqAt.list_none ht (by omega)
   | bl _=>unfold Rp at ry; subst ry; cases qy; exact SeqAt.EqAt.list_bool _ ht (by omega)
   | int _=>unfold Rp at ry; subst ry; obtain ⟨t,rfl⟩:=qy; exact SeqAt.EqAt.list_int _ _ ht (by omega)
   | str _=>unfold Rp at ry; subst ry; obtain ⟨t,rfl⟩:=qy; exact SeqAt.EqAt.list_str _ _ ht (by omega)
   | dic _=>simp [pl] at py
   | scr _=>simp [pl] at py
   | tup es =>
    unfold Rp at ry
    obtain ⟨b,ws,rfl,_,q',rs'⟩:=ry
    cases qy
    obtain ⟨its',vr',ht',hz'⟩:=I.tuple (SqT.of q')
    exact SeqAt.EqAt.list_tuple ht ht' (by omega)
   | lst es =>
    cases m with
    | zero=>simp [pl] at py
    | succ m =>
    have ry':=ry
    unfold Rp at ry
    obtain ⟨b,ws,rfl,_,q',rs'⟩:=ry
    cases qy
    by_cases hab:a=b
    ·subst hab
     have e:=Rp.inj px py rx' ry'
     rw [<-e,eqb_refl _ _ px]
     exact SeqAt.EqAt.same _
    ·obtain ⟨its',vr',ht',hz'⟩:=I.list (SqL.of q')
     have ht':=ht'.isList
     rw [pl] at px py
     have l1:its.length=ds.length:=by rw [<-vr.length,rs.length]
     have l2:its'.length=es.length:=by rw [<-vr'.length,rs'.length]
     refine SeqAt.EqAt.of_refs hab ?_
     rw [eqb]
     by_cases hl:ds.length=es.length
     ·have main:=SeqAt.RcAt.lists (A:=A) (e:=fun j=>eqb (ds.getD j .non) (es.getD j .non)) ht ht' (by simp [l1,l2,hl]) (by omega) (fun j h1 h2=>by
       simp only [List.size_toArray] at h1 h2
       obtain ⟨v1,p1,p2⟩:=rps_at (X:=X) rs vr j h1
       obtain ⟨v2,p3,p4⟩:=rps_at (X:=X) rs' vr' j h2
       have:=ih m A.in1 (ds.getD j .non) (es.getD j .non) v1 v2 _ _ I (by rw [units_in1]; omega) (pls_getD px j) (pls_getD py j) p1 p3 p2 p4
       simpa using this)
      rw [eqbs_range hl]
      simp only [List.size_toArray,l1] at main
      exact main
     ·rw [eqbs_len hl]
      exact SeqAt.RcAt.lists_lengths ht ht' (by simp only [List.size_toArray,l1,l2]; exact bne_iff_ne.mpr hl) (by omega)
end
end M

set_option Elab.async false
set_option linter.all false
set_option maxRecDepth 100000
namespace M
open PySem PySem.Spec PyProof.Rows L2
section
variable {X:Cx} {pins:List (Addr × Obj)} {σ:St} {H:Hp} {s:Shared} {O:Addr->Prop}
theorem rc_at (n m:Nat) (A:Around) (dx dy:D) (v w:V) (u u':Value) (I:Inv X pins σ H s) (hu:A.units + n < cLine) (px:pl n dx=true) (py:pl m dy=true) (rx:Rp X.K H O dx v) (ry:Rp X.K H O dy w) (qx:RelV v u) (qy:RelV w u'):SeqAt.RcAt A s u u' ((eqb dx dy)):=by
 have hu0:A.units < cLine:=by omega
 cases dx with
 | dic _=>simp [pl] at px
 | scr _=>simp [pl] at px
 | non =>
  unfold Rp at rx; subst rx; cases qx
  cases dy with
  | dic _=>simp [pl] at py
  | scr _=>simp [pl] at py
  | non =>
   unfold Rp at ry; subst ry; cases qy
   exact SeqAt.RcAt.none_none
  | bl dy =>
   unfold Rp at ry; subst ry; cases qy
   exact SeqAt.RcAt.none_bool _
  | int dy =>
   unfold Rp at ry; subst ry; obtain ⟨t2,rfl⟩:=qy
   exact SeqAt.RcAt.none_int _ _
  | str dy =>
   unfold Rp at ry; subst ry; obtain ⟨t2,rfl⟩:=qy
   exact SeqAt.RcAt.none_str _ _
  | tup dy =>
   unfold Rp at ry; obtain ⟨a2,vs2,rfl,_,h2,rs2⟩:=ry; cases qy; obtain ⟨its2,vr2,ht2,hz2⟩:=I.tuple (SqT.of h2)
   exact SeqAt.RcAt.none_tuple ht2 hu0
  | lst dy =>
   unfold Rp at ry; obtain ⟨a2,vs2,rfl,_,h2,rs2⟩:=ry; cases qy; obtain ⟨its2,vr2,ht2,hz2⟩:=I.list (SqL.of h2); have ht2:=ht2.isList
   exact SeqAt.RcAt.none_list ht2 hu0
 | bl dx =>
  unfold Rp at rx; subst rx; cases qx
  cases dy with
  | dic _=>simp [pl] at py
  | scr _=>simp [pl] at py
  | non =>
   unfold Rp at ry; subst ry; cases qy
   exact SeqAt.RcAt.bool_none _
  | bl dy =>
   unfold Rp at ry; subst ry; cases qy
   exact SeqAt.RcAt.bool_bool _ _
  | int dy =>
   unfold Rp at ry; subst ry; obtain ⟨t2,rfl⟩:=qy
   exact SeqAt.RcAt.bool_int _ _ _
  | str dy =>
   unfold Rp at ry; subst ry; obtain ⟨t2,rfl⟩:=qy
   exact SeqAt.RcAt.bool_str _ _ _
  | tup dy =>
   unfold Rp at ry; obtain ⟨a2,vs2,rfl,_,h2,rs2⟩:=ry; cases qy; obtain ⟨its2,vr2,ht2,hz2⟩:=I.tuple (SqT.of h2)
   exact SeqAt.RcAt.bool_tuple _ ht2 hu0
  | lst dy =>
   unfold Rp at ry; obtain ⟨a2,vs2,rfl,_,h2,rs2⟩:=ry; cases qy; obtain ⟨its2,vr2,ht2,hz2⟩:=I.list (SqL.of h2); have ht2:=ht2.isList
   exact SeqAt.RcAt.bool_list _ ht2 hu0
 | int dx =>
  unfold Rp at rx; subst rx; obtain ⟨t1,rfl⟩:=qx
  cases dy with
  | dic _=>simp [pl] at py
  | scr _=>simp [pl] at py
  | non =>
   unfold Rp at ry; subst ry; cases qy
   exact SeqAt.RcAt.int_none _ _
  | bl dy =>
   unfold Rp at ry; subst ry; cases qy
   exact SeqAt.RcAt.int_bool _ _ _
  | int dy =>
   unfold Rp at ry; subst ry; obtain ⟨t2,rfl⟩:=qy
   exact SeqAt.RcAt.int_int _ _ _ _
  | str dy =>
   unfold Rp at ry; subst ry; obtain ⟨t2,rfl⟩:=qy
   exact SeqAt.RcAt.int_str _ _ _ _
  | tup dy =>
   unfold Rp at ry; obtain ⟨a2,vs2,rfl,_,h2,rs2⟩:=ry; cases qy; obtain ⟨its2,vr2,ht2,hz2⟩:=I.tuple (SqT.of h2)
   exact SeqAt.RcAt.int_tuple _ _ ht2 hu0
  | lst dy =>
   unfold Rp at ry; obtain ⟨a2,vs2,rfl,_,h2,rs2⟩:=ry; cases qy; obtain ⟨its2,vr2,ht2,hz2⟩:=I.list (SqL.of h2); have ht2:=ht2.isList
   exact SeqAt.RcAt.int_list _ _ ht2 hu0
 | str dx =>
  unfold Rp at rx; subst rx; obtain ⟨t1,rfl⟩:=qx
  cases dy with
  | dic _=>simp [pl] at py
  | scr _=>simp [pl] at py
  | non =>
   unfold Rp at ry; subst ry; cases qy
   exact SeqAt.RcAt.str_none _ _
  | bl dy =>
   unfold Rp at ry; subst ry; cases qy
   exact SeqAt.RcAt.str_bool _ _ _
  | int dy =>
   unfold Rp at ry; subst ry; obtain ⟨t2,rfl⟩:=qy
   exact SeqAt.RcAt.str_int _ _ _ _
  | str dy =>
   unfold Rp at ry; subst ry; obtain ⟨t2,rfl⟩:=qy
   exact SeqAt.RcAt.str_str _ _ _ _
  | tup dy =>
   unfold Rp at ry; obtain ⟨a2,vs2,rfl,_,h2,rs2⟩:=ry; cases qy; obtain ⟨its2,vr2,ht2,hz2⟩:=I.tuple (SqT.of h2)
   exact SeqAt.RcAt.str_tuple _ _ ht2 hu0
  | lst dy =>
   unfold Rp at ry; obtain ⟨a2,vs2,rfl,_,h2,rs2⟩:=ry; cases qy; obtain ⟨its2,vr2,ht2,hz2⟩:=I.list (SqL.of h2); have ht2:=ht2.isList
   exact SeqAt.RcAt.str_list _ _ ht2 hu0
 | tup dx =>
  cases n with
  | zero=>simp [pl] at px
  | succ n =>
  unfold Rp at rx; obtain ⟨a1,vs1,rfl,_,h1,rs1⟩:=rx; cases qx; obtain ⟨its1,vr1,ht1,hz1⟩:=I.tuple (SqT.of h1)
  cases dy with
  | dic _=>simp [pl] at py
  | scr _=>simp [pl] at py
  | non =>
   unfold Rp at ry; subst ry; cases qy
   exact SeqAt.RcAt.tuple_none ht1 hu0
  | bl dy =>
   unfold Rp at ry; subst ry; cases qy
   exact SeqAt.RcAt.tuple_bool _ ht1 hu0
  | int dy =>
   unfold Rp at ry; subst ry; obtain ⟨t2,rfl⟩:=qy
   exact SeqAt.RcAt.tuple_int _ _ ht1 hu0
  | str dy =>
   unfold Rp at ry; subst ry; obtain ⟨t2,rfl⟩:=qy
   exact SeqAt.RcAt.tuple_str _ _ ht1 hu0
  | tup dy =>
   cases m with
   | zero=>simp [pl] at py
   | succ m =>
   unfold Rp at ry; obtain ⟨a2,vs2,rfl,_,h2,rs2⟩:=ry; cases qy; obtain ⟨its2,vr2,ht2,hz2⟩:=I.tuple (SqT.of h2)
   rw [pl] at px py
   have l1:its1.length=dx.length:=by rw [<-vr1.length,rs1.length]
   have l2:its2.length=dy.length:=by rw [<-vr2.length,rs2.length]
   have el:∀ j (h1:j < its1.toArray.size) (h2:j < its2.toArray.size),SeqAt.EqAt A.in1 s its1.toArray[j] its2.toArray[j] (eqb (dx.getD j .non) (dy.getD j .non)):=fun j h1 h2=>by
    simp only [List.size_toArray] at h1 h2
    obtain ⟨v1,p1,p2⟩:=rps_at (X:=X) rs1 vr1 j h1
    obtain ⟨v2,p3,p4⟩:=rps_at (X:=X) rs2 vr2 j h2
    have:=eq_at n m A.in1 (dx.getD j .non) (dy.getD j .non) v1 v2 _ _ I (by rw [units_in1]; omega) (pls_getD px j) (pls_getD py j) p1 p3 p2 p4
    simpa using this
   rw [eqb]
   by_cases hl:dx.length=dy.length
   ·have main:=SeqAt.RcAt.tuples (A:=A) (e:=fun j=>eqb (dx.getD j .non) (dy.getD j .non)) ht1 ht2 hu0 el
    simp only [List.size_toArray,l1,l2,hl,Nat.min_self,beq_self_eq_true,Bool.and_true] at main
    rw [eqbs_range hl,hl]; exact main
   ·have main:=SeqAt.RcAt.tuples (A:=A) (e:=fun j=>eqb (dx.getD j .non) (dy.getD j .non)) ht1 ht2 hu0 el
    rw [eqbs_len hl]
    simp only [List.size_toArray,l1,l2] at main
    rw [beq_eq_false_iff_ne.mpr hl,Bool.and_false] at main
    exact main
  | lst dy =>
   unfold Rp at ry; obtain ⟨a2,vs2,rfl,_,h2,rs2⟩:=ry; cases qy; obtain ⟨its2,vr2,ht2,hz2⟩:=I.list (SqL.of h2); have ht2:=ht2.isList
   exact SeqAt.RcAt.tuple_list ht1 ht2 hu0
 | lst dx =>
  cases n with
  | zero=>simp [pl] at px
  | succ n =>
  unfold Rp at rx; obtain ⟨a1,vs1,rfl,_,h1,rs1⟩:=rx; cases qx; obtain ⟨its1,vr1,ht1,hz1⟩:=I.list (SqL.of h1); have ht1:=ht1.isList
  cases dy with
  | dic _=>simp [pl] at py
  | scr _=>simp [pl] at py
  | non =>
   unfold Rp at ry; subst ry; cases qy
   exact SeqAt.RcAt.list_none ht1 hu0
  | bl dy =>
   unfold Rp at ry; subst ry; cases qy
   exact SeqAt.RcAt.list_bool _ ht1 hu0
  | int dy =>
   unfold Rp at ry; subst ry; obtain ⟨t2,rfl⟩:=qy
   exact SeqAt.RcAt.list_int _ _ ht1 hu0
  | str dy =>
   unfold Rp at ry; subst ry; obtain ⟨t2,rfl⟩:=qy
   exact SeqAt.RcAt.list_str _ _ ht1 hu0
  | tup dy =>
   unfold Rp at ry; obtain ⟨a2,vs2,rfl,_,h2,rs2⟩:=ry; cases qy; obtain ⟨its2,vr2,ht2,hz2⟩:=I.tuple (SqT.of h2)
   exact SeqAt.RcAt.list_tuple ht1 ht2 hu0
  | lst dy =>
   cases m with
   | zero=>simp [pl] at py
   | succ m =>
   unfold Rp at ry; obtain ⟨a2,vs2,rfl,_,h2,rs2⟩:=ry; cases qy; obtain ⟨its2,vr2,ht2,hz2⟩:=I.list (SqL.of h2); have ht2:=ht2.isList
   rw [pl] at px py
   have l1:its1.length=dx.length:=by rw [<-vr1.length,rs1.length]
   have l2:its2.length=dy.length:=by rw [<-vr2.length,rs2.length]
   have el:∀ j (h1:j < its1.toArray.size) (h2:j < its2.toArray.size),SeqAt.EqAt A.in1 s its1.toArray[j] its2.toArray[j] (eqb (dx.getD j .non) (dy.getD j .non)):=fun j h1 h2=>by
    simp only [List.size_toArray] at h1 h2
    obtain ⟨v1,p1,p2⟩:=rps_at (X:=X) rs1 vr1 j h1
    obtain ⟨v2,p3,p4⟩:=rps_at (X:=X) rs2 vr2 j h2
    have:=eq_at n m A.in1 (dx.getD j .non) (dy.getD j .non) v1 v2 _ _ I (by rw [units_in1]; omega) (pls_getD px j) (pls_getD py j) p1 p3 p2 p4
    simpa using this
   rw [eqb]
   by_cases hl:dx.length=dy.length
   ·have main:=SeqAt.RcAt.lists (A:=A) (e:=fun j=>eqb (dx.getD j .non) (dy.getD j .non)) ht1 ht2 (by simp [l1,l2,hl]) hu0 el
    simp only [List.size_toArray,l1] at main
    rw [eqbs_range hl]; exact main
   ·rw [eqbs_len hl]
    exact SeqAt.RcAt.lists_lengths ht1 ht2 (by simp only [List.size_toArray,l1,l2]; exact bne_iff_ne.mpr hl) hu0
theorem rcne_at (n m:Nat) (A:Around) (dx dy:D) (v w:V) (u u':Value) (I:Inv X pins σ H s) (hu:A.units + n < cLine) (px:pl n dx=true) (py:pl m dy=true) (rx:Rp X.K H O dx v) (ry:Rp X.K H O dy w) (qx:RelV v u) (qy:RelV w u'):SeqAt.RcNeAt A s u u' (!(eqb dx dy)):=by
 have hu0:A.units < cLine:=by omega
 cases dx with
 | dic _=>simp [pl] at px
 | scr _=>simp [pl] at px
 | non =>
  unfold Rp at rx; subst rx; cases qx
  cases dy with
  | dic _=>simp [pl] at py
  | scr _=>simp [pl] at py
  | non =>
   unfold Rp at ry; subst ry; cases qy
   exact SeqAt.RcNeAt.none_none
  | bl dy =>
   unfold Rp at ry; subst ry; cases qy
   exact SeqAt.RcNeAt.none_bool _
  | int dy =>
   unfold Rp at ry; subst ry; obtain ⟨t2,rfl⟩:=qy
   exact SeqAt.RcNeAt.none_int _ _
  | str dy =>
   unfold Rp at ry; subst ry; obtain ⟨t2,rfl⟩:=qy
   exact SeqAt.RcNeAt.none_str _ _
  | tup dy =>
   unfold Rp at ry; obtain ⟨a2,vs2,rfl,_,h2,rs2⟩:=ry; cases qy; obtain ⟨its2,vr2,ht2,hz2⟩:=I.tuple (SqT.of h2)
   exact SeqAt.RcNeAt.none_tuple ht2 hu0
  | lst dy =>
   unfold Rp at ry; obtain ⟨a2,vs2,rfl,_,h2,rs2⟩:=ry; cases qy; obtain ⟨its2,vr2,ht2,hz2⟩:=I.list (SqL.of h2); have ht2:=ht2.isList
   exact SeqAt.RcNeAt.none_list ht2 hu0
 | bl dx =>
  unfold Rp at rx; subst rx; cases qx
  cases dy with
  | dic _=>simp [pl] at py
  | scr _=>simp [pl] at py
  | non =>
   unfold Rp at ry; subst ry; cases qy
   exact SeqAt.RcNeAt.bool_none _
  | bl dy =>
   unfold Rp at ry; subst ry; cases qy
   exact SeqAt.RcNeAt.bool_bool _ _
  | int dy =>
   unfold Rp at ry; subst ry; obtain ⟨t2,rfl⟩:=qy
   exact SeqAt.RcNeAt.bool_int _ _ _
  | str dy =>
   unfold Rp at ry; subst ry; obtain ⟨t2,rfl⟩:=qy
   exact SeqAt.RcNeAt.bool_str _ _ _
  | tup dy =>
   unfold Rp at ry; obtain ⟨a2,vs2,rfl,_,h2,rs2⟩:=ry; cases qy; obtain ⟨its2,vr2,ht2,hz2⟩:=I.tuple (SqT.of h2)
   exact SeqAt.RcNeAt.bool_tuple _ ht2 hu0
  | lst dy =>
   unfold Rp at ry; obtain ⟨a2,vs2,rfl,_,h2,rs2⟩:=ry; cases qy; obtain ⟨its2,vr2,ht2,hz2⟩:=I.list (SqL.of h2); have ht2:=ht2.isList
   exact SeqAt.RcNeAt.bool_list _ ht2 hu0
 | int dx =>
  unfold Rp at rx; subst rx; obtain ⟨t1,rfl⟩:=qx
  cases dy with
  | dic _=>simp [pl] at py
  | scr _=>simp [pl] at py
  | non =>
   unfold Rp at ry; subst ry; cases qy
   exact SeqAt.RcNeAt.int_none _ _
  | bl dy =>
   unfold Rp at ry; subst ry; cases qy
   exact SeqAt.RcNeAt.int_bool _ _ _
  | int dy =>
   unfold Rp at ry; subst ry; obtain ⟨t2,rfl⟩:=qy
   exact SeqAt.RcNeAt.int_int _ _ _ _
  | str dy =>
   unfold Rp at ry; subst ry; obtain ⟨t2,rfl⟩:=qy
   exact SeqAt.RcNeAt.int_str _ _ _ _
  | tup dy =>
   unfold Rp at ry; obtain ⟨a2,vs2,rfl,_,h2,rs2⟩:=ry; cases qy; obtain ⟨its2,vr2,ht2,hz2⟩:=I.tuple (SqT.of h2)
   exact SeqAt.RcNeAt.int_tuple _ _ ht2 hu0
  | lst dy =>
   unfold Rp at ry; obtain ⟨a2,vs2,rfl,_,h2,rs2⟩:=ry; cases qy; obtain ⟨its2,vr2,ht2,hz2⟩:=I.list (SqL.of h2); have ht2:=ht2.isList
   exact SeqAt.RcNeAt.int_list _ _ ht2 hu0
 | str dx =>
  unfold Rp at rx; subst rx; obtain ⟨t1,rfl⟩:=qx
  cases dy with
  | dic _=>simp [pl] at py
  | scr _=>simp [pl] at py
  | non =>
   unfold Rp at ry; subst ry; cases qy
   exact SeqAt.RcNeAt.str_none _ _
  | bl dy =>
   unfold Rp at ry; subst ry; cases qy
   exact SeqAt.RcNeAt.str_bool _ _ _
  | int dy =>
   unfold Rp at ry; subst ry; obtain ⟨t2,rfl⟩:=qy
   exact SeqAt.RcNeAt.str_int _ _ _ _
  | str dy =>
   unfold Rp at ry; subst ry; obtain ⟨t2,rfl⟩:=qy
   exact SeqAt.RcNeAt.str_str _ _ _ _
  | tup dy =>
   unfold Rp at ry; obtain ⟨a2,vs2,rfl,_,h2,rs2⟩:=ry; cases qy; obtain ⟨its2,vr2,ht2,hz2⟩:=I.tuple (SqT.of h2)
   exact SeqAt.RcNeAt.str_tuple _ _ ht2 hu0
  | lst dy =>
   unfold Rp at ry; obtain ⟨a2,vs2,rfl,_,h2,rs2⟩:=ry; cases qy; obtain ⟨its2,vr2,ht2,hz2⟩:=I.list (SqL.of h2); have ht2:=ht2.isList
   exact SeqAt.RcNeAt.str_list _ _ ht2 hu0
 | tup dx =>
  cases n with
  | zero=>simp [pl] at px
  | succ n =>
  unfold Rp at rx; obtain ⟨a1,vs1,rfl,_,h1,rs1⟩:=rx; cases qx; obtain ⟨its1,vr1,ht1,hz1⟩:=I.tuple (SqT.of h1)
  cases dy with
  | dic _=>simp [pl] at py
  | scr _=>simp [pl] at py
  | non =>
   unfold Rp at ry; subst ry; cases qy
   exact SeqAt.RcNeAt.tuple_none ht1 hu0
  | bl dy =>
   unfold Rp at ry; subst ry; cases qy
   exact SeqAt.RcNeAt.tuple_bool _ ht1 hu0
  | int dy =>
   unfold Rp at ry; subst ry; obtain ⟨t2,rfl⟩:=qy
   exact SeqAt.RcNeAt.tuple_int _ _ ht1 hu0
  | str dy =>
   unfold Rp at ry; subst ry; obtain ⟨t2,rfl⟩:=qy
   exact SeqAt.RcNeAt.tuple_str _ _ ht1 hu0
  | tup dy =>
   cases m with
   | zero=>simp [pl] at py
   | succ m =>
   unfold Rp at ry; obtain ⟨a2,vs2,rfl,_,h2,rs2⟩:=ry; cases qy; obtain ⟨its2,vr2,ht2,hz2⟩:=I.tuple (SqT.of h2)
   rw [pl] at px py
   have l1:its1.length=dx.length:=by rw [<-vr1.length,rs1.length]
   have l2:its2.length=dy.length:=by rw [<-vr2.length,rs2.length]
   have el:∀ j (h1:j < its1.toArray.size) (h2:j < its2.toArray.size),SeqAt.EqAt A.in1 s its1.toArray[j] its2.toArray[j] (eqb (dx.getD j .non) (dy.getD j .non)):=fun j h1 h2=>by
    simp only [List.size_toArray] at h1 h2
    obtain ⟨v1,p1,p2⟩:=rps_at (X:=X) rs1 vr1 j h1
    obtain ⟨v2,p3,p4⟩:=rps_at (X:=X) rs2 vr2 j h2
    have:=eq_at n m A.in1 (dx.getD j .non) (dy.getD j .non) v1 v2 _ _ I (by rw [units_in1]; omega) (pls_getD px j) (pls_getD py j) p1 p3 p2 p4
    simpa using this
   rw [eqb]
   by_cases hl:dx.length=dy.length
   ·have main:=SeqAt.RcNeAt.tuples (A:=A) (e:=fun j=>eqb (dx.getD j .non) (dy.getD j .non)) ht1 ht2 hu0 el
    simp only [List.size_toArray,l1,l2,hl,Nat.min_self,beq_self_eq_true,Bool.and_true] at main
    rw [eqbs_range hl,hl]; exact main
   ·have main:=SeqAt.RcNeAt.tuples (A:=A) (e:=fun j=>eqb (dx.getD j .non) (dy.getD j .non)) ht1 ht2 hu0 el
    rw [eqbs_len hl]
    simp only [List.size_toArray,l1,l2] at main
    rw [beq_eq_false_iff_ne.mpr hl,Bool.and_false] at main
    exact main
  | lst dy =>
   unfold Rp at ry; obtain ⟨a2,vs2,rfl,_,h2,rs2⟩:=ry; cases qy; obtain ⟨its2,vr2,ht2,hz2⟩:=I.list (SqL.of h2); have ht2:=ht2.isList
   exact SeqAt.RcNeAt.tuple_list ht1 ht2 hu0
 | lst dx =>
  cases n with
  | zero=>simp [pl] at px
  | succ n =>
  unfold Rp at rx; obtain ⟨a1,vs1,rfl,_,h1,rs1⟩:=rx; cases qx; obtain ⟨its1,vr1,ht1,hz1⟩:=I.list (SqL.of h1); have ht1:=ht1.isList
  cases dy with
  | dic _=>simp [pl] at py
  | scr _=>simp [pl] at py
  | non =>
   unfold Rp at ry; subst ry; cases qy
   exact SeqAt.RcNeAt.list_none ht1 hu0
  | bl dy =>
   unfold Rp at ry; subst ry; cases qy
   exact SeqAt.RcNeAt.list_bool _ ht1 hu0
  | int dy =>
   unfold Rp at ry; subst ry; obtain ⟨t2,rfl⟩:=qy
   exact SeqAt.RcNeAt.list_int _ _ ht1 hu0
  | str dy =>
   unfold Rp at ry; subst ry; obtain ⟨t2,rfl⟩:=qy
   exact SeqAt.RcNeAt.list_str _ _ ht1 hu0
  | tup dy =>
   unfold Rp at ry; obtain ⟨a2,vs2,rfl,_,h2,rs2⟩:=ry; cases qy; obtain ⟨its2,vr2,ht2,hz2⟩:=I.tuple (SqT.of h2)
   exact SeqAt.RcNeAt.list_tuple ht1 ht2 hu0
  | lst dy =>
   cases m with
   | zero=>simp [pl] at py
   | succ m =>
   unfold Rp at ry; obtain ⟨a2,vs2,rfl,_,h2,rs2⟩:=ry; cases qy; obtain ⟨its2,vr2,ht2,hz2⟩:=I.list (SqL.of h2); have ht2:=ht2.isList
   rw [pl] at px py
   have l1:its1.length=dx.length:=by rw [<-vr1.length,rs1.length]
   have l2:its2.length=dy.length:=by rw [<-vr2.length,rs2.length]
   have el:∀ j (h1:j < its1.toArray.size) (h2:j < its2.toArray.size),SeqAt.EqAt A.in1 s its1.toArray[j] its2.toArray[j] (eqb (dx.getD j .non) (dy.getD j .non)):=fun j h1 h2=>by
    simp only [List.size_toArray] at h1 h2
    obtain ⟨v1,p1,p2⟩:=rps_at (X:=X) rs1 vr1 j h1
    obtain ⟨v2,p3,p4⟩:=rps_at (X:=X) rs2 vr2 j h2
    have:=eq_at n m A.in1 (dx.getD j .non) (dy.getD j .non) v1 v2 _ _ I (by rw [units_in1]; omega) (pls_getD px j) (pls_getD py j) p1 p3 p2 p4
    simpa using this
   rw [eqb]
   by_cases hl:dx.length=dy.length
   ·have main:=SeqAt.RcNeAt.lists (A:=A) (e:=fun j=>eqb (dx.getD j .non) (dy.getD j .non)) ht1 ht2 (by simp [l1,l2,hl]) hu0 el
    simp only [List.size_toArray,l1] at main
    rw [eqbs_range hl]; exact main
   ·rw [eqbs_len hl]
    exact SeqAt.RcNeAt.lists_lengths ht1 ht2 (by simp only [List.size_toArray,l1,l2]; exact bne_iff_ne.mpr hl) hu0
end

section
variable {X:Cx} {G:Fc}
noncomputable def rEqD (K:PySem.W.Frag) (neg:Bool):R2:=fun x y H Q=>∃ dx dy,pl 4 dx=true/\pl 4 dy=true/\Rp K H NoO dx x/\Rp K H NoO dy y/\Q (.bl (if neg=true then !(eqb dx dy) else eqb dx dy)) H
theorem op_eqD (hu:X.A.units + 4 < cLine):OpR X (compareOp .Eq) (rEqD X.K false):=by
 intro pins s σ H x y v u Q I rx ry h
 obtain ⟨dx,dy,px,py,qx,qy,q⟩:=h
 exact rc_at (O:=NoO) 4 4 X.A dx dy x y v u I hu px py qx qy rx ry _ _ _ _ (fin_bl I q rfl)
theorem op_neD (hu:X.A.units + 4 < cLine):OpR X (compareOp .NotEq) (rEqD X.K true):=by
 intro pins s σ H x y v u Q I rx ry h
 obtain ⟨dx,dy,px,py,qx,qy,q⟩:=h
 exact rcne_at (O:=NoO) 4 4 X.A dx dy x y v u I hu px py qx qy rx ry _ _ _ _ (fin_bl I q rfl)
noncomputable def fEq (dx dy:D):Option D:=if pl 4 dx && pl 4 dy then some (.bl (eqb dx dy)) else none
noncomputable def fNe (dx dy:D):Option D:=if pl 4 dx && pl 4 dy then some (.bl (!(eqb dx dy))) else none
theorem od_eq {K:PySem.W.Frag}:OpD K (rEqD K false) fEq:=fun H O dx dy d v w Q fr e rx ry q=>by
 unfold fEq at e
 split at e
 ·rename_i h
  rw [Bool.and_eq_true] at h
  cases e
  exact ⟨dx,dy,h.1,h.2,rx.any h.1,ry.any h.2,q _ H (Same.refl _) rfl⟩
 ·cases e
theorem od_ne {K:PySem.W.Frag}:OpD K (rEqD K true) fNe:=fun H O dx dy d v w Q fr e rx ry q=>by
 unfold fNe at e
 split at e
 ·rename_i h
  rw [Bool.and_eq_true] at h
  cases e
  exact ⟨dx,dy,h.1,h.2,rx.any h.1,ry.any h.2,q _ H (Same.refl _) rfl⟩
 ·cases e
end
end M

set_option Elab.async false
set_option linter.all false
set_option maxRecDepth 100000
namespace M
open PySem PySem.Spec PyProof.Rows L2

noncomputable def fAdd:D->D->Option D
 | .int i,.int j=>some (.int (i + j))
 | .lst a,.lst b=>if a.length + b.length<=1000000 then some (.lst (a++b)) else none
 | .str a,.str b=>if a.length + b.length<=1000000 then some (.str (a++b)) else none
 | _,_=>none
noncomputable def fSub:D->D->Option D
 | .int i,.int j=>some (.int (i - j))
 | _,_=>none
noncomputable def fMul:D->D->Option D
 | .int i,.int j=>if i.natAbs < 2 ^ 63\/j.natAbs < 2 ^ 63 then some (.int (i * j)) else none
 | _,_=>none
noncomputable def fDiv:D->D->Option D
 | .int i,.int j=>if 0 < j/\j < 1073741824 then some (.int (i / j)) else none
 | _,_=>none
noncomputable def fMod:D->D->Option D
 | .int i,.int j=>if 0 < j then some (.int (i % j)) else none
 | _,_=>none
section
variable {K:PySem.W.Frag}
theorem od_int {C:Int->Int->Prop} {g:Int->Int->D} {gv:Int->Int->V} {f:D->D->Option D} (hf:∀ dx dy d,f dx dy=some d->∃ i j,dx=.int i/\dy=.int j/\C i j/\d=g i j) (hg:∀ i j H O,Rp K H O (g i j) (gv i j)) :
  OpD K (rI C gv) f:=fun H O dx dy d v w Q fr e rx ry q=>by
 obtain ⟨i,j,rfl,rfl,c,rfl⟩:=hf _ _ _ e
 exact ⟨i,j,rx.int,ry.int,c,q _ H (Same.refl _) (hg i j H O)⟩
theorem od_int0 {g:Int->Int->D} {gv:Int->Int->V} {f:D->D->Option D} (hf:∀ dx dy d,f dx dy=some d->∃ i j,dx=.int i/\dy=.int j/\d=g i j) (hg:∀ i j H O,Rp K H O (g i j) (gv i j)) :
  OpD K (rI0 gv) f:=fun H O dx dy d v w Q fr e rx ry q=>by
 obtain ⟨i,j,rfl,rfl,rfl⟩:=hf _ _ _ e
 exact ⟨i,j,rx.int,ry.int,q _ H (Same.refl _) (hg i j H O)⟩
theorem od_sub:OpD K (rI0 fun i j=>.int (i - j)) fSub:=od_int0 (g:=fun i j=>.int (i - j)) (fun dx dy d e=>by
 cases dx<;>cases dy<;>simp [fSub] at e
 exact ⟨_,_,rfl,rfl,e.symm⟩) fun _ _ _ _=>by unfold Rp; rfl
theorem od_mul:OpD K (rI CMul fun i j=>.int (i * j)) fMul:=od_int (g:=fun i j=>.int (i * j)) (fun dx dy d e=>by
 cases dx<;>cases dy<;>simp [fMul] at e
 obtain ⟨c,e⟩:=e
 refine ⟨_,_,rfl,rfl,?_,e.symm⟩
 unfold CMul
 omega (config:={})) fun _ _ _ _=>by unfold Rp; rfl
theorem od_div:OpD K (rI CDiv fun i j=>.int (i / j)) fDiv:=od_int (g:=fun i j=>.int (i / j)) (fun dx dy d e=>by
 cases dx<;>cases dy<;>simp [fDiv] at e
 obtain ⟨c,e⟩:=e
 exact ⟨_,_,rfl,rfl,c,e.symm⟩) fun _ _ _ _=>by unfold Rp; rfl
theorem od_mod:OpD K (rI (fun _ j=>0 < j) fun i j=>.int (i % j)) fMod:=od_int (g:=fun i j=>.int (i % j)) (fun dx dy d e=>by
 cases dx<;>cases dy<;>simp [fMod] at e
 obtain ⟨c,e⟩:=e
 exact ⟨_,_,rfl,rfl,c,e.symm⟩) fun _ _ _ _=>by unfold Rp; rfl
noncomputable def rAdd3:R2:=fun x y H Q=>(rI0 fun i j=>.int (i + j)) x y H Q\/rCat x y H Q\/(∃ i j,x=.str i/\y=.str j/\i.length + j.length<=sizeLine/\Q (.str (i++j)) H)
theorem op_add3 {X:Cx}:OpR X (binaryOp .Add) rAdd3:=op_add.or (op_cat.or op_add_str)
theorem od_add:OpD K rAdd3 fAdd:=fun H O dx dy d v w Q fr e rx ry q=>by
 cases dx with
 | int i =>
  cases dy<;>simp [fAdd] at e
  exact .inl ⟨_,_,rx.int,ry.int,q _ H (Same.refl _) (by rw [<-e]; unfold Rp; rfl)⟩
 | str i =>
  cases dy<;>simp [fAdd] at e
  obtain ⟨c,e⟩:=e
  exact .inr (.inr ⟨_,_,rx.str,ry.str,by rw [sizeLine_eq]; omega,q _ H (Same.refl _) (by rw [<-e]; unfold Rp; rfl)⟩)
 | lst a =>
  cases dy<;>simp [fAdd] at e
  obtain ⟨c,e⟩:=e
  obtain ⟨l,xs,rfl,h1,r1⟩:=rx.lst
  obtain ⟨l',ys,rfl,h2,r2⟩:=ry.lst
  refine .inr (.inl ⟨l,l',xs,ys,rfl,rfl,h1,h2,by rw [r1.length,r2.length,sizeLine_eq]; omega,fun p hp=>q _ _ (same_upd hp) ?_⟩)
  subst e
  unfold Rp
  exact ⟨p,_,rfl,fr.fr hp,upd_same,(r1.append r2).mono (same_upd hp) fun _ z=>z⟩
 | _=>cases dy<;>simp [fAdd] at e
noncomputable def fCat:D->D->Option D
 | .lst a,.lst b=>if a.length + b.length<=1000000 then some (.lst (a++b)) else none
 | _,_=>none

noncomputable def dInts:List D->Option (List Int)
 | []=>some []
 | .int i :: r=>(dInts r).map (i :: ·)
 | _ :: _=>none
theorem ints_some:∀ {ds:List D} {ns:List Int},dInts ds=some ns->ds=ns.map D.int
 | [],ns,h=>by simp [dInts] at h; subst h; rfl
 | .int i :: r,ns,h=>by
  simp only [dInts,Option.map_eq_some_iff] at h
  obtain ⟨ms,h1,rfl⟩:=h
  rw [ints_some h1]; rfl
 | .non :: r,ns,h=>by simp [dInts] at h
 | .bl _ :: r,ns,h=>by simp [dInts] at h
 | .str _ :: r,ns,h=>by simp [dInts] at h
 | .tup _ :: r,ns,h=>by simp [dInts] at h
 | .lst _ :: r,ns,h=>by simp [dInts] at h
 | .dic _ :: r,ns,h=>by simp [dInts] at h
 | .scr _ :: r,ns,h=>by simp [dInts] at h
@[simp] theorem ints_map:∀ ns:List Int,dInts (ns.map D.int)=some ns
 | []=>rfl
 | n :: ns=>by simp [dInts,ints_map ns]
theorem Rps.ints {H:Hp} {O:Addr->Prop}:∀ {ns:List Int} {vs:List V},Rps K H O (ns.map D.int) vs->vs=ns.map V.int
 | [],vs,h=>by unfold Rps at h; exact h
 | n :: ns,vs,h=>by
  unfold Rps at h
  obtain ⟨v,r,rfl,p,q⟩:=h
  unfold Rp at p
  rw [p,Rps.ints q]; rfl
theorem rps_of_ints {H:Hp} {O:Addr->Prop}:∀ (ns:List Int),Rps K H O (ns.map D.int) (ns.map V.int)
 | []=>Rps.nil
 | n :: ns=>Rps.cons (by unfold Rp; rfl) (rps_of_ints ns)
noncomputable def fLt:D->D->Option D
 | .int i,.int j=>some (.bl (decide (i < j)))
 | .tup a,.tup b=>do let x ← dInts a; let y ← dInts b; pure (.bl (HT.lexLt x y))
 | _,_=>none
noncomputable def fLe:D->D->Option D
 | .int i,.int j=>some (.bl (decide (i<=j)))
 | _,_=>none
noncomputable def fGt:D->D->Option D
 | .int i,.int j=>some (.bl (decide (j < i)))
 | _,_=>none
noncomputable def fGe:D->D->Option D
 | .int i,.int j=>some (.bl (decide (j<=i)))
 | .tup a,.tup b=>do let x ← dInts a; let y ← dInts b; pure (.bl (!(HT.lexLt x y)))
 | _,_=>none
noncomputable def rLt2 (K:PySem.W.Frag):R2:=fun x y H Q=>(rI0 fun i j=>.bl (decide (i < j))) x y H Q\/rLtT K x y H Q
theorem op_lt2 {X:Cx} (hu:X.A.units < cLine):OpR X (compareOp .Lt) (rLt2 X.K):=op_lt.or (op_ltT hu)
theorem od_lt:OpD K (rLt2 K) fLt:=fun H O dx dy d v w Q fr e rx ry q=>by
 cases dx with
 | int i =>
  cases dy<;>simp [fLt] at e
  exact .inl ⟨_,_,rx.int,ry.int,q _ H (Same.refl _) (by rw [<-e]; unfold Rp; rfl)⟩
 | tup a =>
  cases dy<;>simp [fLt,Option.bind_eq_some_iff] at e
  obtain ⟨ns,e1,ms,e2,e⟩:=e
  obtain ⟨l,xs,rfl,h1,r1⟩:=rx.tup
  obtain ⟨l',ys,rfl,h2,r2⟩:=ry.tup
  rw [ints_some e1] at r1
  rw [ints_some e2] at r2
  exact .inr ⟨l,l',ns,ms,rfl,rfl,SqT.of (by rw [<-r1.ints]; exact h1),SqT.of (by rw [<-r2.ints]; exact h2),q _ H (Same.refl _) (by rw [<-e]; unfold Rp; rfl)⟩
 | _=>cases dy<;>simp [fLt] at e
theorem od_le:OpD K (rI0 fun i j=>.bl (decide (i<=j))) fLe:=od_int0 (g:=fun i j=>.bl (decide (i<=j))) (fun dx dy d e=>by
 cases dx<;>cases dy<;>simp [fLe] at e
 exact ⟨_,_,rfl,rfl,e.symm⟩) fun _ _ _ _=>by unfold Rp; rfl
theorem od_gt:OpD K (rI0 fun i j=>.bl (decide (j < i))) fGt:=od_int0 (g:=fun i j=>.bl (decide (j < i))) (fun dx dy d e=>by
 cases dx<;>cases dy<;>simp [fGt] at e
 exact ⟨_,_,rfl,rfl,e.symm⟩) fun _ _ _ _=>by unfold Rp; rfl
end

section
open PySem.SeqAt
open PySem.AutoSeq1 (wpAny_loadPart')
open PySem.MeetsSeq PySem.MeetsSeq2 PySem.MeetsSeq3
theorem rcGe_int (A:Around) (s:Shared) (a:Int) (t:Tok) (c:Int) (u:Tok) (prog:Program) (w:World) (E:Value->Shared->Prop) (Q:Value->Shared->Prop) (h:Q (.bool (decide (c<=a))) s) :
  wpAny (model prog w) A (richCompare .GtE (.int a t) (.int c u)) Q E s :=
 (PyProof.Rows.ge_int h:wpAny (model prog w) A (compareOp .GtE (.int a t) (.int c u)) Q E s)
theorem tuple_ge_ints (l b:Addr) (items items2:Array Value) (n n2:Nat) (dd dd2:Option Addr) (sl sl2:Array (Option Value)) (ns ms:List Int) (hi:IntsAre items.toList ns) (hj:IntsAre items2.toList ms) :
  Meets (Builtin.«tuple.__ge__» ⟨[.ref l,.ref b],[]⟩)
   (fun _ R s=>s.heap.get? l=some { cls:=.type "tuple",dict:=dd,data:=.seq items n,slots:=sl }/\s.heap.get? b=some { cls:=.type "tuple",dict:=dd2,data:=.seq items2 n2,slots:=sl2 } ∧
    R (.ok (.ret (.bool (!(HT.lexLt ns ms))))) s) :=
 .of_wp fun prog w A R s h=>by
  obtain ⟨hp,g,d,tk,os⟩:=s; obtain ⟨hl,hb,h⟩:=h
  have f2:=AutoSeq1.sub_tuple_tuple
  have z1:items.size=ns.length:=by rw [<-hi.length]; simp
  have z2:items2.size=ms.length:=by rw [<-hj.length]; simp
  wp_walk using wpAny_loadPart' hl,wpAny_loadPart' hb,wpAny_forIn_list _ (fun rest b s'=>b.1=none/\s'=⟨hp,g,d,tk,os⟩/\∃ (vs ws:List Value) (ns' ms':List Int),rest=vs.zip ws ∧
   IntsAre vs ns'/\IntsAre ws ms'/\ns'.length + items2.size=ms'.length + items.size/\R (.ok (.ret (.bool (!(HT.lexLt ns' ms'))))) ⟨hp,g,d,tk,os⟩) _
  case turn =>
   rintro ⟨y,x⟩ rest b s' ⟨hb',rfl,vs,ws,ns',ms',hz,hvi,hwi,hlen,hR⟩
   cases hvi with
   | nil=>rw [List.zip_nil_left] at hz; cases hz
   | cons a t hvi' =>
    cases hwi with
    | nil=>rw [List.zip_nil_right] at hz; cases hz
    | cons c u hwi' =>
     rw [List.zip_cons_cons] at hz
     injection hz with hyx hrest
     injection hyx with hy hx
     subst hy hx
     rw [HT.lexLt_cons] at hR
     simp only [List.length_cons] at hlen
     obtain ⟨e,he,hiff⟩:=HT.eqAt_int A.in1 ⟨hp,g,d,tk,os⟩ a t c u
     refine wpAny_bind (he prog w _ _ ?_)
     cases e with
     | true =>
      rw [if_pos (hiff.mp rfl)] at hR
      wp_walk
      exact ⟨rfl,rfl,_,_,_,_,hrest,hvi',hwi',by omega,hR⟩
     | false =>
      rw [if_neg (fun q=>absurd (hiff.mpr q) Bool.false_ne_true)] at hR
      have hri:=rcGe_int A.in1 ⟨hp,g,d,tk,os⟩ a t c u prog w
      wp_walk using hri
      have ed:(!(decide (a < c)))=decide (c<=a):=by
       rw [Bool.eq_iff_iff]; simp
      rw [ed] at hR
      exact ⟨_,rfl,by simpa using hR⟩
  case fin =>
   rintro ⟨b1,b2⟩ s' ⟨hb',rfl,vs,ws,ns',ms',hz,hvi,hwi,hlen,hR⟩
   simp only at hb'
   subst hb'
   have hv:(!(HT.lexLt ns' ms'))=decide (items2.size<=items.size):=by
    cases hvi with
    | nil =>
     cases hwi with
     | nil =>
      simp only [List.length_nil] at hlen
      rw [HT.lexLt_nil_nil]
      exact (decide_eq_true (by omega)).symm
     | cons c u hw =>
      simp only [List.length_nil,List.length_cons] at hlen
      rw [HT.lexLt_nil_cons]
      exact (decide_eq_false (by omega)).symm
    | cons a t hv =>
     cases hwi with
     | nil =>
      simp only [List.length_nil,List.length_cons] at hlen
      rw [HT.lexLt_cons_nil]
      exact (decide_eq_true (by omega)).symm
     | cons c u hw =>
      rw [List.zip_cons_cons] at hz
      cases hz
   rw [hv] at hR
   wp_walk
   exact ⟨_,rfl,by simpa [Builtin.Tuple.tupleCompareSizes] using hR⟩
  case h =>
   exact ⟨rfl,rfl,items.toList,items2.toList,ns,ms,rfl,hi,hj,by omega,h⟩
theorem ge_tupInts {prog:Program} {w:World} {A:Around} {E:Value->Shared->Prop} {s:Shared} {l b:Addr} {items items2:Array Value} {ns ms:List Int} {Q:Value->Shared->Prop} (hl:IsTup s.heap l items) (hb:IsTup s.heap b items2) (hi:IntsAre items.toList ns) (hj:IntsAre items2.toList ms)
  (hu:A.units < cLine) (h:Q (.bool (!(HT.lexLt ns ms))) s):wpAny (model prog w) A (compareOp .GtE (.ref l) (.ref b)) Q E s:=by
 obtain ⟨⟨cls,dd,data,sl⟩,ho,hc,n,hd⟩:=id hl
 obtain ⟨⟨cls2,dd2,data2,sl2⟩,ho2,hc2,n2,hd2⟩:=id hb
 simp only at hc hd hc2 hd2
 subst hc hd hc2 hd2
 exact richCompare_meets_room (op:=.GtE) ⟨_,ho,rfl⟩ ⟨_,ho2,rfl⟩ PySem.F.slot_tuple_ge PySem.F.entry_tuple_ge (PySem.F.args_tuple_ge_2 _ _) (tuple_ge_ints l b items items2 n n2 dd dd2 sl sl2 ns ms hi hj)
  ⟨ho,ho2,show Value.bool (!(HT.lexLt ns ms)) ≠ Value.notImplemented/\Q (.bool (!(HT.lexLt ns ms))) s from ⟨(fun x=>nomatch x),h⟩⟩ hu
end
section
variable {X:Cx} {K:PySem.W.Frag}
noncomputable def rGeT (K:PySem.W.Frag):R2:=fun x y H Q=>∃ a b ns ms,x=.ref a/\y=.ref b/\SqT K H a (ns.map V.int)/\SqT K H b (ms.map V.int)/\Q (.bl (!(HT.lexLt ns ms))) H
theorem op_geT (hu:X.A.units < cLine):OpR X (compareOp .GtE) (rGeT X.K):=by
 intro pins s σ H x y v u Q I rx ry h
 obtain ⟨a,b,ns,ms,rfl,rfl,ha,hb,q⟩:=h
 cases rx
 cases ry
 obtain ⟨its,r,p,_⟩:=I.tuple ha
 obtain ⟨its',r',p',_⟩:=I.tuple hb
 exact ge_tupInts p p' (intsAre_of r) (intsAre_of r') hu ⟨.bl _,H,I,rfl,q⟩
noncomputable def rGe2 (K:PySem.W.Frag):R2:=fun x y H Q=>(rI0 fun i j=>.bl (decide (j<=i))) x y H Q\/rGeT K x y H Q
theorem op_ge2 (hu:X.A.units < cLine):OpR X (compareOp .GtE) (rGe2 X.K):=op_ge.or (op_geT hu)
theorem od_ge:OpD K (rGe2 K) fGe:=fun H O dx dy d v w Q fr e rx ry q=>by
 cases dx with
 | int i =>
  cases dy<;>simp [fGe] at e
  exact .inl ⟨_,_,rx.int,ry.int,q _ H (Same.refl _) (by rw [<-e]; unfold Rp; rfl)⟩
 | tup a =>
  cases dy<;>simp [fGe,Option.bind_eq_some_iff] at e
  obtain ⟨ns,e1,ms,e2,e⟩:=e
  obtain ⟨l,xs,rfl,h1,r1⟩:=rx.tup
  obtain ⟨l',ys,rfl,h2,r2⟩:=ry.tup
  rw [ints_some e1] at r1
  rw [ints_some e2] at r2
  exact .inr ⟨l,l',ns,ms,rfl,rfl,SqT.of (by rw [<-r1.ints]; exact h1),SqT.of (by rw [<-r2.ints]; exact h2),q _ H (Same.refl _) (by rw [<-e]; unfold Rp; rfl)⟩
 | _=>cases dy<;>simp [fGe] at e
end
end M

set_option Elab.async false
set_option linter.all false
set_option maxRecDepth 100000
namespace M
open PySem PySem.Spec PyProof.Rows L2

theorem pls_get {n:Nat} {ds:List D} (h:pls n ds=true) {j:Nat} {d:D} (e:ds[j]?=some d):pl n d=true:=by
 have:=pls_getD h j
 rw [List.getD_eq_getElem?_getD,e] at this
 exact this
section
variable {X:Cx} {pins:List (Addr × Obj)} {σ:St} {H:Hp} {s:Shared}
theorem mem_at {A:Around} {dx:D} {ds:List D} {x:V} {u:Value} {vs:List V} {its:List Value} (I:Inv X pins σ H s) (hu:A.units + 4 < cLine) (px:pl 3 dx=true) (ps:pls 3 ds=true) (rx:Rp X.K H NoO dx x) (qx:RelV x u) (rs:Rps X.K H NoO ds vs) (qs:Vals vs its) :
  ∃ e:Value->Bool,(∀ y,y ∈ its.toArray->SeqAt.EqAt A.in1 s y u (e y))/\its.toArray.any e=ds.any fun y=>eqb y dx:=by
 classical
 have l:its.length=ds.length:=by rw [<-qs.length,rs.length]
 have at':∀ (j:Nat) (y:Value),its[j]?=some y->∃ v d,vs[j]?=some v/\ds[j]?=some d/\RelV v y/\Rp X.K H NoO d v:=fun j y e=>by
  have hj:j < its.length:=(List.getElem?_eq_some_iff.mp e).1
  have h2:j < ds.length:=by omega (config:={})
  obtain ⟨v,e1,p⟩:=rs.get (i:=j) (d:=ds[j]) (by simp [h2])
  obtain ⟨z,e2,p2⟩:=qs.get e1
  rw [e] at e2; cases e2
  exact ⟨v,_,e1,by simp [h2],p2,p⟩
 have same:∀ (j j':Nat) (y:Value) (d d':D),its[j]?=some y->its[j']?=some y->ds[j]?=some d->ds[j']?=some d'->d=d':=fun j j' y d d' e e' h h'=>by
  obtain ⟨v,d1,_,h1,q1,r1⟩:=at' j y e
  obtain ⟨v',d2,_,h2,q2,r2⟩:=at' j' y e'
  rw [h] at h1; cases h1
  rw [h'] at h2; cases h2
  cases q1.inj q2
  exact r1.inj (pls_get ps h) (pls_get ps h') r2
 let e:Value->Bool:=fun y=>decide (∃ (j:Nat) (d:D),its[j]?=some y/\ds[j]?=some d/\eqb d dx=true)
 have ee:∀ (j:Nat) (y:Value) (d:D),its[j]?=some y->ds[j]?=some d->e y=eqb d dx:=fun j y d h1 h2=>by
  cases q:eqb d dx with
  | true=>exact decide_eq_true ⟨j,d,h1,h2,q⟩
  | false =>
   refine decide_eq_false ?_
   rintro ⟨j',d',h1',h2',q'⟩
   rw [same j j' y d d' h1 h1' h2 h2',q'] at q; cases q
 refine ⟨e,fun y hy=>?_,?_⟩
 ·have hy:y ∈ its:=by simpa using hy
  obtain ⟨j,hj⟩:=List.getElem?_of_mem hy
  obtain ⟨v,d,h1,h2,q1,r1⟩:=at' j y hj
  rw [ee j y d hj h2]
  exact eq_at (O:=NoO) 3 3 A.in1 d dx v x y u I (by rw [units_in1]; omega (config:={})) (pls_get ps h2) px r1 rx q1 qx
 ·rw [List.any_toArray,Bool.eq_iff_iff,List.any_eq_true,List.any_eq_true]
  constructor
  ·rintro ⟨y,hy,q⟩
   obtain ⟨j,hj⟩:=List.getElem?_of_mem hy
   obtain ⟨v,d,h1,h2,q1,r1⟩:=at' j y hj
   rw [ee j y d hj h2] at q
   exact ⟨d,List.mem_of_getElem? h2,q⟩
  ·rintro ⟨d,hd,q⟩
   obtain ⟨j,hj⟩:=List.getElem?_of_mem hd
   have h2:j < its.length:=by rw [l]; exact (List.getElem?_eq_some_iff.mp hj).1
   refine ⟨its[j],List.getElem_mem h2,?_⟩
   rw [ee j _ d (by simp [h2]) hj]; exact q
end
noncomputable def rInD (K:PySem.W.Frag) (neg:Bool):R2:=fun x y H Q=>∃ dx ds p vs,pl 3 dx=true/\pls 3 ds=true/\y=.ref p/\Rp K H NoO dx x/\(H p=some (.lst vs)\/H p=some (.tup vs))/\Rps K H NoO ds vs ∧
 Q (.bl (if neg=true then !(ds.any fun y=>eqb y dx) else ds.any fun y=>eqb y dx)) H
section
variable {X:Cx} {K:PySem.W.Frag}
theorem op_inD (hu:X.A.units + 4 < cLine):OpR X (compareOp .In) (rInD X.K false):=by
 intro pins s σ H x y v u Q I rx ry h
 obtain ⟨dx,ds,p,vs,px,ps,rfl,qx,h2,rs,q⟩:=h
 cases ry
 rcases h2 with h2 | h2
 ·obtain ⟨its,vr,ht,hz⟩:=I.list (SqL.of h2)
  obtain ⟨e,he,ha⟩:=mem_at (A:=X.A) I hu px ps qx rx rs vr
  exact SeqAt.in_listAt e ht.isList he (by rw [ha]; exact fin_bl I q rfl)
 ·obtain ⟨its,vr,ht,hz⟩:=I.tuple (SqT.of h2)
  obtain ⟨e,he,ha⟩:=mem_at (A:=X.A) I hu px ps qx rx rs vr
  exact SeqAt.in_tupleAt e ht he (by rw [ha]; exact fin_bl I q rfl)
theorem op_notInD (hu:X.A.units + 4 < cLine):OpR X (compareOp .NotIn) (rInD X.K true):=by
 intro pins s σ H x y v u Q I rx ry h
 obtain ⟨dx,ds,p,vs,px,ps,rfl,qx,h2,rs,q⟩:=h
 cases ry
 rcases h2 with h2 | h2
 ·obtain ⟨its,vr,ht,hz⟩:=I.list (SqL.of h2)
  obtain ⟨e,he,ha⟩:=mem_at (A:=X.A) I hu px ps qx rx rs vr
  exact SeqAt.notIn_listAt e ht.isList he (by rw [ha]; exact fin_bl I q rfl)
 ·obtain ⟨its,vr,ht,hz⟩:=I.tuple (SqT.of h2)
  obtain ⟨e,he,ha⟩:=mem_at (A:=X.A) I hu px ps qx rx rs vr
  exact SeqAt.notIn_tupleAt e ht he (by rw [ha]; exact fin_bl I q rfl)
noncomputable def fIn:D->D->Option D
 | x,.lst ds=>if pl 3 x && pls 3 ds then some (.bl (ds.any fun y=>eqb y x)) else none
 | x,.tup ds=>if pl 3 x && pls 3 ds then some (.bl (ds.any fun y=>eqb y x)) else none
 | _,_=>none
noncomputable def fNotIn:D->D->Option D
 | x,.lst ds=>if pl 3 x && pls 3 ds then some (.bl (!(ds.any fun y=>eqb y x))) else none
 | x,.tup ds=>if pl 3 x && pls 3 ds then some (.bl (!(ds.any fun y=>eqb y x))) else none
 | _,_=>none
theorem od_in:OpD K (rInD K false) fIn:=fun H O dx dy d v w Q fr e rx ry q=>by
 unfold fIn at e
 split at e
 ·split at e
  ·rename_i h
   rw [Bool.and_eq_true] at h
   cases e
   obtain ⟨p,vs,rfl,h1,r1⟩:=ry.lst
   exact ⟨dx,_,p,vs,h.1,h.2,rfl,rx.any h.1,.inl h1,r1.mono (Same.refl _) fun _ z=>z.elim,q _ H (Same.refl _) rfl⟩
  ·cases e
 ·split at e
  ·rename_i h
   rw [Bool.and_eq_true] at h
   cases e
   obtain ⟨p,vs,rfl,h1,r1⟩:=ry.tup
   exact ⟨dx,_,p,vs,h.1,h.2,rfl,rx.any h.1,.inr h1,r1.mono (Same.refl _) fun _ z=>z.elim,q _ H (Same.refl _) rfl⟩
  ·cases e
 ·cases e
theorem od_notIn:OpD K (rInD K true) fNotIn:=fun H O dx dy d v w Q fr e rx ry q=>by
 unfold fNotIn at e
 split at e
 ·split at e
  ·rename_i h
   rw [Bool.and_eq_true] at h
   cases e
   obtain ⟨p,vs,rfl,h1,r1⟩:=ry.lst
   exact ⟨dx,_,p,vs,h.1,h.2,rfl,rx.any h.1,.inl h1,r1.mono (Same.refl _) fun _ z=>z.elim,q _ H (Same.refl _) rfl⟩
  ·cases e
 ·split at e
  ·rename_i h
   rw [Bool.and_eq_true] at h
   cases e
   obtain ⟨p,vs,rfl,h1,r1⟩:=ry.tup
   exact ⟨dx,_,p,vs,h.1,h.2,rfl,rx.any h.1,.inr h1,r1.mono (Same.refl _) fun _ z=>z.elim,q _ H (Same.refl _) rfl⟩
  ·cases e
 ·cases e

noncomputable def fIx:D->D->Option D
 | .lst ds,.int i=>atI ds i
 | .tup ds,.int i=>atI ds i
 | .scr ns,.int i=>(atI ns i).map .int
 | .str z,.int i=>if z.length<=1000000 then (atI z.cps.toList i).map fun c=>.str ⟨#[c]⟩ else none
 | _,_=>none
theorem atI_rps {H:Hp} {O:Addr->Prop} {ds:List D} {vs:List V} {i:Int} {d:D} (r:Rps K H O ds vs) (h:atI ds i=some d):∃ v,atI vs i=some v/\Rp K H O d v:=by
 unfold atI at h ⊢
 rw [<-r.length] at h
 cases e:ixN vs.length i with
 | none=>rw [e] at h; cases h
 | some j =>
  rw [e] at h
  exact r.get h
theorem od_ix:OpD K (rIx K) fIx:=fun H O dx dy d v w Q fr e rx ry q=>by
 cases dx with
 | lst ds =>
  cases dy<;>simp [fIx] at e
  obtain ⟨p,vs,rfl,h1,r1⟩:=rx.lst
  obtain ⟨v,e1,p1⟩:=atI_rps r1 e
  exact .inl ⟨p,vs,_,v,rfl,ry.int,SqL.of h1,e1,q _ H (Same.refl _) p1⟩
 | tup ds =>
  cases dy<;>simp [fIx] at e
  obtain ⟨p,vs,rfl,h1,r1⟩:=rx.tup
  obtain ⟨v,e1,p1⟩:=atI_rps r1 e
  exact .inr (.inl ⟨p,vs,_,v,rfl,ry.int,SqT.of h1,e1,q _ H (Same.refl _) p1⟩)
 | scr ns =>
  cases dy<;>simp [fIx] at e
  obtain ⟨n,e,rfl⟩:=e
  rcases rx with rx | ⟨a,_,h⟩
  ·obtain ⟨p,rfl,h1⟩:=rx.scr
   refine .inl ⟨p,_,_,.int n,rfl,ry.int,h1,?_,q _ H (Same.refl _) (by unfold Rp; rfl)⟩
   unfold atI at e ⊢
   rw [List.length_map]
   cases e':ixN ns.length _ with
   | none=>rw [e'] at e; cases e
   | some j =>
    rw [e'] at e
    simp only [Option.bind_some] at e ⊢
    rw [List.getElem?_map,e]; rfl
  ·exact h.elim
 | str z =>
  cases dy<;>simp [fIx] at e
  obtain ⟨hz,c,e,rfl⟩:=e
  exact .inr (.inr ⟨z,_,c,rx.str,ry.int,by rw [sizeLine_eq]; omega,e,q _ H (Same.refl _) (by unfold Rp; rfl)⟩)
 | _=>cases dy<;>simp [fIx] at e
end

noncomputable def cutD {α:Type} (xs:List α) (lo hi:Option Int):List α:=(xs.drop (HT.sIx xs.length 0 lo)).take (HT.sIx xs.length xs.length hi - HT.sIx xs.length 0 lo)
noncomputable def oPart (m:EV):Ev->R (Option Int):=fun E=>m E >>= fun d=>match d with
 | .int i=>.ok (some i)
 | _=>.no
noncomputable def oNone:Ev->R (Option Int):=fun _=>.ok none
noncomputable def fSl:D->Option Int->Option Int->Option D
 | .lst ds,lo,hi=>some (.lst (cutD ds lo hi))
 | .tup ds,lo,hi=>if HT.sIx ds.length 0 lo=0/\HT.sIx ds.length ds.length hi=ds.length then none else some (.tup (cutD ds lo hi))
 | _,_,_=>none
noncomputable def eSl (a:EV) (lo hi:Ev->R (Option Int)):EV:=fun E=>a E >>= fun x=>lo E >>= fun l=>hi E >>= fun h=>ofO (fSl x l h)
section
variable {X:Cx} {G:Fc}
noncomputable def SO (X:Cx) (G:Fc) (e:Option Expr) (m:Ev->R (Option Int)):Prop :=
 PO X e fun σ H Q=>∃ E,Rel X.K G E σ H/\Fin (m E) (fun o=>∀ H',Same H H'->Q o H') G.xc
theorem _root_.L2.PO.imp {X:Cx} {e:Option Expr} {t t':TO} (h:PO X e t) (i:∀ σ H Q,t' σ H Q->t σ H Q):PO X e t':=fun pins s σ H Q I q=>h pins s σ H Q I (i σ H Q q)
theorem so_none:SO X G none oNone:=po_none.imp fun σ H Q z0=>z0.elim fun E z0=>z0.elim fun hr f=>f H (Same.refl _)
theorem so_some {e:Expr} {m:EV} (h:SE X G e m):SO X G (some e) (oPart m):=(po_some h).imp fun σ H Q z0=>z0.elim fun E z0=>z0.elim fun hr f=>⟨E,hr,(Fin.bind f).mono fun d p v H' s z=>by
 cases d with
 | int i=>exact ⟨i,z.int,p H' s⟩
 | _=>exact p.elim⟩
theorem rps_cut {K:PySem.W.Frag} {H:Hp} {O:Addr->Prop} {ds:List D} {vs:List V} (r:Rps K H O ds vs) (lo hi:Option Int):Rps K H O (cutD ds lo hi) (cutV vs lo hi):=by
 unfold cutD cutV
 rw [r.length]
 exact (r.drop _).take _
theorem sf_slice {e:Expr} {lo hi:Option Expr} {p2 pos:Pos} {m:EV} {ml mh:Ev->R (Option Int)} (he:SE X G e m) (hl:SO X G lo ml) (hh:SO X G hi mh):SF X G (.Subscript e (.Slice lo hi none p2) pos) (eSl m ml mh) :=
 (pe_slice (SlR.or sl_list sl_tup) he hl hh).imp fun σ H Q z0=>z0.elim fun E z0=>z0.elim fun hr f=>⟨E,hr,(Fin.bind f).mono fun d p v H1 s1 z1=>⟨E,hr.same s1,(Fin.bind p).mono fun l p H2 s2=>⟨E,hr.same (s1.trans s2),(Fin.bind p).mono fun h p H3 s3=>by
  obtain ⟨d',e',p⟩:=Fin.of p
  have z:=z1.mono (s2.trans s3) fun _ z=>z
  have fr:∀ a,H3 a=none->¬ Ow G.pr E σ a:=fun a ha=>(hr.same (s1.trans (s2.trans s3))).fresh ha
  cases d with
  | lst ds =>
   cases e'
   obtain ⟨a,vs,rfl,h1,r1⟩:=z.lst
   refine .inl ⟨a,vs,rfl,SqL.of h1,fun q hq=>p _ _ (s1.trans (s2.trans (s3.trans (same_upd hq)))) ?_⟩
   unfold Rp
   exact ⟨q,_,rfl,fr q hq,upd_same,(rps_cut r1 _ _).mono (same_upd hq) fun _ z=>z⟩
  | tup ds =>
   simp only [fSl] at e'
   split at e'
   ·cases e'
   ·rename_i hn
    cases e'
    obtain ⟨a,vs,rfl,h1,r1⟩:=z.tup
    refine .inr ⟨a,vs,rfl,SqT.of h1,by rw [r1.length]; exact hn,fun q hq=>p _ _ (s1.trans (s2.trans (s3.trans (same_upd hq)))) ?_⟩
    unfold Rp
    exact ⟨q,_,rfl,fr q hq,upd_same,(rps_cut r1 _ _).mono (same_upd hq) fun _ z=>z⟩
  | _=>cases e'⟩⟩⟩
end

noncomputable def dget:List (List Int × D)->List Int->Option D
 | [],_=>none
 | (k,d) :: r,j=>if k=j then some d else dget r j
noncomputable def dput (kvs:List (List Int × D)) (k:List Int) (v:D):List (List Int × D) :=
 if kvs.any (fun kv=>decide (kv.1=k))=true then kvs.map (fun kv=>if kv.1=k then (kv.1,v) else kv) else kvs++[(k,v)]
noncomputable def keyOf:D->Option (List Int)
 | .tup ds=>dInts ds
 | _=>none
noncomputable def fDget:D->D->Option D
 | .dic kvs,k=>(keyOf k).bind (dget kvs)
 | _,_=>none
noncomputable def fDin:D->D->Option D
 | k,.dic kvs=>(keyOf k).map fun k=>.bl (dget kvs k).isSome
 | _,_=>none
noncomputable def fDnotIn:D->D->Option D
 | k,.dic kvs=>(keyOf k).map fun k=>.bl (!(dget kvs k).isSome)
 | _,_=>none
section
variable {K:PySem.W.Frag} {H:Hp} {O:Addr->Prop}
theorem inl_inj {a b:List Int}:a.map (Sum.inl:Int->Key)=b.map Sum.inl ↔ a=b :=
 ⟨fun h=>by
  have:=congrArg (List.map fun k:Key=>match k with | .inl i=>i | .inr _=>0) h
  simpa [Function.comp_def] using this,fun h=>by rw [h]⟩
theorem Rpk.get:∀ {kvs:List (List Int × D)} {ws:List (List Key × V)} (k:List Int),Rpk K H O kvs ws->(match dget kvs k with | some d=>∃ v,valV ws (k.map Sum.inl)=some v/\Rp K H O d v | none=>valV ws (k.map Sum.inl)=none)
 | [],ws,k,h=>by unfold Rpk at h; subst h; rfl
 | (j,d) :: r,ws,k,h=>by
  unfold Rpk at h
  obtain ⟨v,r',rfl,p,q⟩:=h
  unfold Rpq at p
  unfold dget
  by_cases e:j=k
  ·rw [if_pos e]
   exact ⟨v,valV_pos (by rw [e]),p⟩
  ·rw [if_neg e,valV_neg (fun z=>e (inl_inj.mp z))]
   exact Rpk.get k q
theorem Rpk.length:∀ {kvs:List (List Int × D)} {ws:List (List Key × V)},Rpk K H O kvs ws->ws.length=kvs.length
 | [],ws,h=>by unfold Rpk at h; subst h; rfl
 | (j,d) :: r,ws,h=>by
  unfold Rpk at h
  obtain ⟨v,r',rfl,p,q⟩:=h
  simp [Rpk.length q]
theorem Rpk.any:∀ {kvs:List (List Int × D)} {ws:List (List Key × V)} (k:List Int),Rpk K H O kvs ws->ws.any (fun kv=>decide (kv.1=k.map Sum.inl))=kvs.any fun kv=>decide (kv.1=k)
 | [],ws,k,h=>by unfold Rpk at h; subst h; rfl
 | (j,d) :: r,ws,k,h=>by
  unfold Rpk at h
  obtain ⟨v,r',rfl,p,q⟩:=h
  rw [List.any_cons,List.any_cons,Rpk.any k q]
  congr 1
  rw [Bool.eq_iff_iff]; simp only [decide_eq_true_eq]; exact inl_inj
theorem Rpk.repl {d:D} {v:V} {k:List Int} (p:Rp K H O d v):∀ {kvs:List (List Int × D)} {ws:List (List Key × V)},Rpk K H O kvs ws->Rpk K H O (kvs.map fun kv=>if kv.1=k then (kv.1,d) else kv) (ws.map fun kv=>if kv.1=k.map Sum.inl then (kv.1,v) else kv)
 | [],ws,h=>by unfold Rpk at h; subst h; unfold Rpk; rfl
 | (j,d0) :: r,ws,h=>by
  unfold Rpk at h
  obtain ⟨u,r',rfl,p0,q⟩:=h
  rw [List.map_cons,List.map_cons]
  by_cases e:j=k
  ·subst e
   rw [if_pos rfl,if_pos rfl]
   unfold Rpk
   exact ⟨v,_,rfl,by unfold Rpq; exact p,Rpk.repl p q⟩
  ·rw [if_neg e,if_neg (fun z=>e (inl_inj.mp z))]
   unfold Rpk
   exact ⟨u,_,rfl,p0,Rpk.repl p q⟩
theorem Rpk.snoc {d:D} {v:V} {k:List Int} (p:Rp K H O d v):∀ {kvs:List (List Int × D)} {ws:List (List Key × V)},Rpk K H O kvs ws->Rpk K H O (kvs++[(k,d)]) (ws++[(k.map Sum.inl,v)])
 | [],ws,h=>by
  unfold Rpk at h; subst h; unfold Rpk
  exact ⟨v,[],rfl,by unfold Rpq; exact p,by unfold Rpk; rfl⟩
 | (j,d0) :: r,ws,h=>by
  unfold Rpk at h
  obtain ⟨u,r',rfl,p0,q⟩:=h
  show Rpk K H O ((j,d0) :: (r++[(k,d)])) _
  unfold Rpk
  exact ⟨u,_,rfl,p0,Rpk.snoc p q⟩
theorem Rpk.put {kvs:List (List Int × D)} {ws:List (List Key × V)} {k:List Int} {d:D} {v:V} (h:Rpk K H O kvs ws) (p:Rp K H O d v):Rpk K H O (dput kvs k d) (putK ws (k.map Sum.inl) v):=by
 unfold dput putK
 rw [h.any k]
 split
 ·exact Rpk.repl p h
 ·exact Rpk.snoc p h
theorem key_of' {k:D} {ks:List Int} {v:V} (e:keyOf k=some ks) (r:Rt K H O k v):∃ b,v=.ref b/\H b=some (.tup ((ks.map (Sum.inl:Int->Key)).map kV)):=by
 cases k with
 | tup ds =>
  obtain ⟨b,vs,rfl,h,r⟩:=r.tup
  have:=ints_some e
  subst this
  refine ⟨b,rfl,?_⟩
  rw [h,r.ints,List.map_map]; rfl
 | _=>simp [keyOf] at e
end
section
variable {X:Cx} {G:Fc} {o i:Expr} {mo mi:EV} {pos:Pos}
theorem dget_rd {H:Hp} {a b:Addr} {kvs:List (List Key × V)} {k:List Key} (e:Rd H a (.dT kvs)) (eb:H b=some (.tup (k.map kV))):DGet H a (.ref b) (valV kvs k):=.inr ⟨kvs,k,b,e,rfl,eb,rfl⟩
theorem sf_dget (hu:X.A.units + 1 < cLine) (ho:SE X G o mo) (hi:SE X G i mi) (hs:NoSl i):SF X G (.Subscript o i pos) (e2 fDget mo mi) :=
 (pe_dget hu ho hi hs).imp fun σ H Q z0=>z0.elim fun E z0=>z0.elim fun hr f=>⟨E,hr,(Fin.bind f).mono fun dx fx v H1 s1 p1=>⟨E,hr.same s1,(Fin.bind fx).mono fun dy fy w H2 s2 p2=>by
  obtain ⟨d,e,p⟩:=Fin.of fy
  cases dx with
  | dic kvs =>
   simp only [fDget,Option.bind_eq_some_iff] at e
   obtain ⟨ks,e1,e2⟩:=e
   obtain ⟨b,rfl,hb⟩:=key_of' e1 p2
   obtain ⟨a,ws,rfl,ha,rk⟩:=(p1.mono s2 fun _ z=>z).dic
   have g:=rk.get ks
   rw [e2] at g
   obtain ⟨v,g1,g2⟩:=g
   refine ⟨a,v,rfl,?_,p v H2 (s1.trans s2) g2⟩
   have:=dget_rd ha hb
   rw [g1] at this
   exact this
  | _=>cases e⟩⟩
theorem dget_is {K:PySem.W.Frag} {H:Hp} {O:Addr->Prop} {kvs:List (List Int × D)} {ws:List (List Key × V)} {ks:List Int} {a b:Addr} (rk:Rpk K H O kvs ws) (ha:Rd H a (.dT ws)) (hb:H b=some (.tup ((ks.map (Sum.inl:Int->Key)).map kV))) :
  ∃ o,DGet H a (.ref b) o/\o.isSome=(dget kvs ks).isSome:=by
 refine ⟨_,dget_rd ha hb,?_⟩
 have g:=rk.get ks
 cases e:dget kvs ks with
 | none=>rw [e] at g; dsimp only at g; rw [g]; rfl
 | some d=>rw [e] at g; obtain ⟨v,g1,_⟩:=g; rw [g1]; rfl
end
end M

set_option Elab.async false
set_option linter.all false
set_option maxRecDepth 100000
namespace M
open PySem PySem.Spec PyProof.Rows L2

section
variable {K:PySem.W.Frag} {G:Fc} {E:Ev} {σ:St} {H H':Hp}
theorem get_set {α:Type} {l:List α} {i j:Nat} {x y:α} (h:(l.set i x)[j]?=some y):(j=i/\y=x)\/(j ≠ i/\l[j]?=some y):=by
 by_cases e:j=i
 ·subst e
  rw [List.getElem?_set_self'] at h
  cases q:l[j]? with
  | none=>rw [q] at h; cases h
  | some z=>rw [q] at h; simp at h; exact .inl ⟨rfl,h.symm⟩
 ·rw [List.getElem?_set_ne (Ne.symm e)] at h
  exact .inr ⟨e,h⟩
theorem set_ne {α:Type} {l:List α} {i j:Nat} {x:α} (e:j ≠ i):(l.set i x)[j]?=l[j]?:=List.getElem?_set_ne (Ne.symm e)
theorem set_self {α:Type} {l:List α} {i:Nat} {x:α} (h:i < l.length):(l.set i x)[i]?=some x:=by simp [h]
theorem Ow.setF {i:Nat} {d:D} {v:Option V} {a:Addr} (h:Ow G.pr (E.set i (.fz d)) (σ.set i v) a):Ow G.pr E σ a:=by
 rcases h with h | ⟨j,d',h1,h2⟩
 ·exact .inl h
 ·rcases get_set h1 with ⟨_,e⟩ | ⟨n,h1⟩
  ·cases e
  ·rw [set_ne n] at h2
   exact .inr ⟨j,d',h1,h2⟩
theorem Rel.setF {i:Nat} {d:D} {v:V} (r:Rel K G E σ H) (p:Rp K H (Ow G.pr E σ) d v):Rel K G (E.set i (.fz d)) (σ.set i (some v)) H where
 len:=by simp [r.len]
 fz:=fun j d' h=>by
  rcases get_set h with ⟨e,z⟩ | ⟨n,h⟩
  ·cases z
   subst e
   have hj:j < σ.length:=by
    rw [<-r.len]
    have:=(List.getElem?_eq_some_iff.mp h).1
    simpa using this
   exact ⟨v,set_self hj,p.mono (Same.refl _) fun _ z=>z.setF⟩
  ·obtain ⟨u,h1,h2⟩:=r.fz j d' h
   exact ⟨u,by rw [set_ne n]; exact h1,h2.mono (Same.refl _) fun _ z=>z.setF⟩
 ow:=fun j d' h=>by
  rcases get_set h with ⟨e,z⟩ | ⟨n,h⟩
  ·cases z
  ·obtain ⟨u,h1,h2,h3⟩:=r.ow j d' h
   exact ⟨u,by rw [set_ne n]; exact h1,h2.mono (Same.refl _) fun _ z=>z.setF,h3⟩
 ne:=fun j k d' e' a h1 h2 h3 h4=>by
  rcases get_set h1 with ⟨_,z⟩ | ⟨n1,h1⟩
  ·cases z
  rcases get_set h2 with ⟨_,z⟩ | ⟨n2,h2⟩
  ·cases z
  rw [set_ne n1] at h3
  rw [set_ne n2] at h4
  exact r.ne j k d' e' a h1 h2 h3 h4
 base:=r.base
 prt:=r.prt
theorem Rel.setO {i:Nat} {d:D} {a:Addr} (r:Rel K G E σ H) (s:Same H H') (n:H a=none) (p:Own K H' (fun b=>Ow G.pr E σ b\/b=a) d a):Rel K G (E.set i (.ow d)) (σ.set i (some (.ref a))) H':=by
 have no:¬ Ow G.pr E σ a:=r.fresh n
 have sub:∀ b,Ow G.pr (E.set i (.ow d)) (σ.set i (some (.ref a))) b->Ow G.pr E σ b\/b=a:=fun b h=>by
  rcases h with h | ⟨j,d',h1,h2⟩
  ·exact .inl (.inl h)
  ·rcases get_set h1 with ⟨e,z⟩ | ⟨n1,h1⟩
   ·cases z
    subst e
    rcases get_set h2 with ⟨_,z⟩ | ⟨n,_⟩
    ·cases z; exact .inr rfl
    ·exact absurd rfl n
   ·rw [set_ne n1] at h2
    exact .inl (.inr ⟨j,d',h1,h2⟩)
 have h0:G.h0 a=none:=by
  cases q:G.h0 a with
  | none=>rfl
  | some o=>rw [r.base _ _ q] at n; cases n
 refine ⟨by simp [r.len],fun j d' h=>?_,fun j d' h=>?_,fun j k d' e' b h1 h2 h3 h4=>?_,r.base.trans s,r.prt⟩
 ·rcases get_set h with ⟨e,z⟩ | ⟨n1,h⟩
  ·cases z
  ·obtain ⟨u,h1,h2⟩:=r.fz j d' h
   exact ⟨u,by rw [set_ne n1]; exact h1,(h2.fresh n).mono s sub⟩
 ·rcases get_set h with ⟨e,z⟩ | ⟨n1,h⟩
  ·cases z
   subst e
   have hj:j < σ.length:=by
    rw [<-r.len]
    have:=(List.getElem?_eq_some_iff.mp h).1
    simpa using this
   exact ⟨a,set_self hj,p.mono (Same.refl _) sub,h0⟩
  ·obtain ⟨u,h1,h2,h3⟩:=r.ow j d' h
   refine ⟨u,by rw [set_ne n1]; exact h1,?_,h3⟩
   have h4:Own K H (fun b=>Ow G.pr E σ b\/b=a) d' u:=by
    cases d' with
    | lst ds=>obtain ⟨vs,e,q⟩:=h2; exact ⟨vs,e,q.fresh n⟩
    | dic ds=>obtain ⟨vs,e,q⟩:=h2; exact ⟨vs,e,q.fresh n⟩
    | _=>exact h2
   exact h4.mono s sub
 ·rcases get_set h1 with ⟨ej,zj⟩ | ⟨n1,h1⟩
  ·rcases get_set h2 with ⟨ek,zk⟩ | ⟨n2,h2'⟩
   ·rw [ej,ek]
   ·exfalso
    cases ej
    rcases get_set h3 with ⟨_,z⟩ | ⟨n,_⟩
    ·cases z
     rw [set_ne n2] at h4
     exact no (.inr ⟨k,e',h2',h4⟩)
    ·exact n rfl
  ·rename_i hh1
   rcases get_set h2 with ⟨ek,zk⟩ | ⟨n2,h2⟩
   ·exfalso
    cases ek
    rcases get_set h4 with ⟨_,z⟩ | ⟨n,_⟩
    ·cases z
     rw [set_ne n1] at h3
     exact no (.inr ⟨j,d',h1,h3⟩)
    ·exact n rfl
   ·rw [set_ne n1] at h3
    rw [set_ne n2] at h4
    exact r.ne j k d' e' b h1 h2 h3 h4
end

section
variable {K:PySem.W.Frag} {G:Fc} {E:Ev} {σ:St} {H H':Hp}
theorem Rel.write {i:Nat} {d d':D} {a:Addr} {o':HO} (r:Rel K G E σ H) (hi:E[i]?=some (.ow d)) (ha:σ[i]?=some (some (.ref a))) (p:Own K (upd H a o') (Ow G.pr E σ) d' a):Rel K G (E.set i (.ow d')) σ (upd H a o'):=by
 have oa:Ow G.pr E σ a:=.inr ⟨i,d,hi,ha⟩
 have sub:∀ b,Ow G.pr (E.set i (.ow d')) σ b->Ow G.pr E σ b:=fun b h=>by
  rcases h with h | ⟨j,d1,h1,h2⟩
  ·exact .inl h
  ·rcases get_set h1 with ⟨e,z⟩ | ⟨n1,h1⟩
   ·subst e; exact .inr ⟨j,d,hi,h2⟩
   ·exact .inr ⟨j,d1,h1,h2⟩
 obtain ⟨a',e1,e2,e3⟩:=r.ow i d hi
 rw [ha] at e1; cases e1
 refine ⟨by simp [r.len],fun j d1 h=>?_,fun j d1 h=>?_,fun j k d1 d2 b h1 h2 h3 h4=>?_,fun b o q=>?_,r.prt⟩
 ·rcases get_set h with ⟨e,z⟩ | ⟨n1,h⟩
  ·cases z
  ·obtain ⟨u,h1,h2⟩:=r.fz j d1 h
   exact ⟨u,h1,(h2.write oa).mono (Same.refl _) sub⟩
 ·rcases get_set h with ⟨e,z⟩ | ⟨n1,h⟩
  ·cases z
   subst e
   exact ⟨a,ha,p.mono (Same.refl _) sub,e3⟩
  ·obtain ⟨u,h1,h2,h3⟩:=r.ow j d1 h
   have hu:u ≠ a:=fun z=>by subst z; exact n1 (r.ne j i d1 d u h hi h1 ha)
   refine ⟨u,h1,?_,h3⟩
   cases d1 with
   | lst ds=>obtain ⟨vs,e,q⟩:=h2; exact ⟨vs,by rw [upd_ne hu]; exact e,(q.write oa).mono (Same.refl _) sub⟩
   | dic ds=>obtain ⟨vs,e,q⟩:=h2; exact ⟨vs,by rw [upd_ne hu]; exact e,(q.write oa).mono (Same.refl _) sub⟩
   | _=>exact h2
 ·have q1:∃ x,E[j]?=some (.ow x):=by
   rcases get_set h1 with ⟨e,z⟩ | ⟨n1,h1⟩
   ·exact ⟨d,by rw [e]; exact hi⟩
   ·exact ⟨_,h1⟩
  have q2:∃ x,E[k]?=some (.ow x):=by
   rcases get_set h2 with ⟨e,z⟩ | ⟨n1,h2⟩
   ·exact ⟨d,by rw [e]; exact hi⟩
   ·exact ⟨_,h2⟩
  obtain ⟨x1,q1⟩:=q1
  obtain ⟨x2,q2⟩:=q2
  exact r.ne j k x1 x2 b q1 q2 h3 h4
 ·have hb:b ≠ a:=fun z=>by subst z; rw [e3] at q; cases q
  rw [upd_ne hb]
  exact r.base _ _ q
noncomputable def frz (i:Nat) (E:Ev):Ev:=match E[i]? with
 | some (.ow d)=>E.set i (.fz d)
 | _=>E
theorem Rel.frz {i:Nat} (r:Rel K G E σ H):Rel K G (frz i E) σ H\/∃ a ws,H a=some (.dT ws)/\G.h0 a=none/\∀ o,Rel K G (frz i E) σ (upd H a (.frz o (.dT ws))):=by
 unfold M.frz
 split
 ·rename_i d hi
  obtain ⟨a,e1,e2,e3⟩:=r.ow i d hi
  have eσ:σ.set i (some (.ref a))=σ:=by
   apply List.ext_getElem?
   intro j
   by_cases e:j=i
   ·subst e; rw [set_self (List.getElem?_eq_some_iff.mp e1).1,e1]
   ·rw [set_ne e]
  have sub:∀ b,Ow G.pr (E.set i (.fz d)) σ b->Ow G.pr E σ b/\b ≠ a:=fun b h=>by
   have h':Ow G.pr (E.set i (.fz d)) (σ.set i (some (.ref a))) b:=by rw [eσ]; exact h
   refine ⟨h'.setF,fun z=>?_⟩
   subst z
   rcases h with h | ⟨j,d1,h1,h2⟩
   ·obtain ⟨o,q,_⟩:=r.prt b h
    rw [e3] at q; cases q
   ·rcases get_set h1 with ⟨e,z⟩ | ⟨n1,h1⟩
    ·cases z
    ·exact n1 (r.ne j i d1 d b h1 hi h2 e1)
  have ne:∀ (j k:Nat) (d1 d2:D) (b:Addr),(E.set i (.fz d))[j]?=some (.ow d1)->(E.set i (.fz d))[k]?=some (.ow d2)->σ[j]?=some (some (.ref b))->σ[k]?=some (some (.ref b))->j=k:=fun j k d1 d2 b h1 h2 h3 h4=>by
   rcases get_set h1 with ⟨_,z⟩ | ⟨n1,h1⟩
   ·cases z
   rcases get_set h2 with ⟨_,z⟩ | ⟨n2,h2⟩
   ·cases z
   exact r.ne j k d1 d2 b h1 h2 h3 h4
  cases hd:isDic d with
  | false =>
   refine .inl ⟨by simp [r.len],fun j d1 h=>?_,fun j d1 h=>?_,ne,r.base,r.prt⟩
   ·rcases get_set h with ⟨e,z⟩ | ⟨n1,h⟩
    ·cases z
     subst e
     exact ⟨_,e1,(e2.mono (Same.refl _) fun b z=>(sub b z).1).rp (fun z=>(sub a z).2 rfl) hd⟩
    ·obtain ⟨u,h1,h2⟩:=r.fz j d1 h
     exact ⟨u,h1,h2.mono (Same.refl _) fun b z=>(sub b z).1⟩
   ·rcases get_set h with ⟨e,z⟩ | ⟨n1,h⟩
    ·cases z
    ·obtain ⟨u,h1,h2,h3⟩:=r.ow j d1 h
     exact ⟨u,h1,h2.mono (Same.refl _) fun b z=>(sub b z).1,h3⟩
  | true =>
   cases d with
   | dic ds =>
    obtain ⟨ws,e,t⟩:=(e2.mono (O':=Ow G.pr (E.set i (.fz (.dic ds))) σ) (Same.refl _) fun b z=>(sub b z).1).tagged (fun z=>(sub a z).2 rfl)
    refine .inr ⟨a,ws,e,e3,fun o=>⟨by simp [r.len],fun j d1 h=>?_,fun j d1 h=>?_,ne,fun b u q=>?_,r.prt⟩⟩
    ·rcases get_set h with ⟨e,z⟩ | ⟨n1,h⟩
     ·cases z
      subst e
      exact ⟨_,e1,t o⟩
     ·obtain ⟨u,h1,h2⟩:=r.fz j d1 h
      exact ⟨u,h1,(h2.mono (Same.refl _) fun b z=>(sub b z).1).tag e⟩
    ·rcases get_set h with ⟨e,z⟩ | ⟨n1,h⟩
     ·cases z
     ·obtain ⟨u,h1,h2,h3⟩:=r.ow j d1 h
      have hu:u ≠ a:=fun z=>by subst z; exact n1 (r.ne j i d1 _ u h hi h1 e1)
      refine ⟨u,h1,?_,h3⟩
      cases d1 with
      | lst ds=>obtain ⟨vs,e',q⟩:=h2; exact ⟨vs,by rw [upd_ne hu]; exact e',(q.mono (Same.refl _) fun b z=>(sub b z).1).tag e⟩
      | dic ds=>obtain ⟨vs,e',q⟩:=h2; exact ⟨vs,by rw [upd_ne hu]; exact e',(q.mono (Same.refl _) fun b z=>(sub b z).1).tag e⟩
      | _=>exact h2
    ·rw [upd_ne (fun z=>by rw [z,e3] at q; cases q)]
     exact r.base _ _ q
   | _=>cases hd
 ·exact .inl r
end

noncomputable def xSeq (m n:EX):EX:=fun E=>m E >>= fun o=>match o with
 | .nx E'=>n E'
 | o=>.ok o
noncomputable def xNil:EX:=fun E=>.ok (.nx E)
noncomputable def xRet (m:EV):EX:=fun E=>m E >>= fun d=>.ok (.rt d)
noncomputable def xRetN:EX:=fun _=>.ok (.rt .non)
noncomputable def xSet (i:Nat) (m:EV):EX:=fun E=>m E >>= fun d=>.ok (.nx (E.set i (.fz d)))
noncomputable def xOwn (i:Nat) (m:EV):EX:=fun E=>m E >>= fun d=>.ok (.nx (E.set i (.ow d)))
noncomputable def xDo (m:EV):EX:=fun E=>m E >>= fun _=>.ok (.nx E)
noncomputable def xIf (t:Ev->R Bool) (a b:EX):EX:=fun E=>t E >>= fun k=>if k=true then a E else b E
noncomputable def xFrz (i:Nat) (m:EX):EX:=fun E=>m (frz i E)
noncomputable def xApp (i:Nat) (m:EV):EX:=fun E=>match E[i]? with
 | some (.ow (.lst ds))=>m E >>= fun d=>if ds.length < 1000000 then .ok (.nx (E.set i (.ow (.lst (ds++[d]))))) else .no
 | _=>.no
noncomputable def xExt (i:Nat) (m:EV):EX:=fun E=>match E[i]? with
 | some (.ow (.lst ds))=>m E >>= fun d=>match d with
  | .lst es=>if ds.length + es.length < 1000000 then .ok (.nx (E.set i (.ow (.lst (ds++es))))) else .no
  | _=>.no
 | _=>.no
noncomputable def xPop (i j:Nat):EX:=fun E=>match E[i]? with
 | some (.ow (.lst ds))=>match ds[ds.length - 1]? with
  | some d=>.ok (.nx ((E.set i (.ow (.lst ds.dropLast))).set j (.fz d)))
  | none=>.no
 | _=>.no
noncomputable def xDput (i:Nat) (mk mv:EV):EX:=fun E=>match E[i]? with
 | some (.ow (.dic kvs))=>mv E >>= fun d=>mk E >>= fun k=>match keyOf k with
  | some ks=>if kvs.length < 1000000 then .ok (.nx (E.set i (.ow (.dic (dput kvs ks d))))) else .no
  | none=>.no
 | _=>.no
noncomputable def xLput (i:Nat) (mk mv:EV):EX:=fun E=>match E[i]? with
 | some (.ow (.lst ds))=>mv E >>= fun d=>mk E >>= fun k=>match k with
  | .int n=>match ixN ds.length n with
   | some j=>.ok (.nx (E.set i (.ow (.lst (ds.set j d)))))
   | none=>.no
  | _=>.no
 | _=>.no
section
variable {X:Cx} {G:Fc} {st:Stmt} {rest:List Stmt} {m n:EX} {e:Expr} {me:EV} {pos:Pos}
theorem sb_nil:SB X G [] xNil:=pss_nil.imp fun D σ H z0=>z0.elim fun E z0=>z0.elim fun hr f=>f σ H hr
theorem sb_cons (h1:SS X G st m) (h2:SB X G rest n):SB X G (st :: rest) (xSeq m n):=(pss_cons h1 h2).imp fun D σ H z0=>z0.elim fun E z0=>z0.elim fun hr f=>⟨E,hr,(Fin.bind f).mono fun o p=>by
 cases o with
 | nx E'=>exact fun σ' H' r'=>⟨E',r',p⟩
 | bk E'=>exact p
 | ct E'=>exact p
 | rt d=>exact p⟩
theorem sb_one (h1:SS X G st m):SB X G [st] m:=pss_one h1
theorem tagged {X:Cx} {pins:List (Addr × Obj)} {σ:St} {H:Hp} {s:Shared} {a:Addr} {ws:List (List Key × V)} (I:Inv X pins σ H s) (e:H a=some (.dT ws)):∃ o,Inv X pins σ (upd H a (.frz o (.dT ws))) s/\NF X a:=by
 obtain ⟨z,y,xs,rr,o,es,ep,h1,h2⟩:=(show ObjOk X.prog X.w H s.heap a (.dT ws) from I.hok a _ e)
 exact ⟨o,I.tag e h1⟩
theorem ss_frz (i:Nat) (h:SS X G st m):SS X G st (xFrz i m):=by
 rintro pins s σ H D I ⟨E,hr,f⟩
 rcases hr.frz (i:=i) with r | ⟨a,ws,e,_,r⟩
 ·exact h pins s σ H D I ⟨frz i E,r,f⟩
 ·obtain ⟨o,I',_⟩:=tagged I e
  exact h pins s σ _ D I' ⟨frz i E,r o,f⟩
theorem ss_ret (he:SF X G e me):SS X G (.Return (some e) pos) (xRet me):=(ps_ret he).imp fun D σ H ⟨E,hr,f⟩=>⟨E,hr,(Fin.bind f).mono fun d p v H' s z=>p v H' (hr.base.trans s) (z.mono (Same.refl _) fun _ z=>.inl z)⟩
theorem ss_set (i:Nat) {x:Str} {pos':Pos} (he:SF X G e me) (hN:X.N.Nodup) (hi:X.N[i]?=some x:=by rfl) (hx:Loc X.env.scope x:=by first | exact Or.inl rfl | exact Or.inr rfl) (hs:swapsWith e (some (.Name x pos')) pos.line X.env=pure false:=by rfl) (hf:X.fn x=true\/X.env.scope.names.lookup x=some .local:=by first | exact .inl rfl | exact .inr rfl | assumption) :
  SS X G (.Assign [.Name x pos'] e pos) (xSet i me):=(ps_set hN hi hx he hs hf).imp fun D σ H ⟨E,hr,f⟩=>⟨E,hr,(Fin.bind f).mono fun d p v H' s z=>p _ _ ((hr.same s).setF z)⟩
theorem ss_own (i:Nat) {x:Str} {pos':Pos} (he:SN X G e me) (hN:X.N.Nodup) (hi:X.N[i]?=some x:=by rfl) (hx:Loc X.env.scope x:=by first | exact Or.inl rfl | exact Or.inr rfl) (hs:swapsWith e (some (.Name x pos')) pos.line X.env=pure false:=by rfl) (hf:X.fn x=true\/X.env.scope.names.lookup x=some .local:=by first | exact .inl rfl | exact .inr rfl | assumption) :
  SS X G (.Assign [.Name x pos'] e pos) (xOwn i me):=(ps_set hN hi hx he hs hf).imp fun D σ H ⟨E,hr,f⟩=>⟨E,hr,(Fin.bind f).mono fun d p a H' s n z=>p _ _ (hr.setO s n z)⟩
theorem ss_expr (he:SE X G e me) (hs:swapsWith e none pos.line X.env=pure false:=by rfl):SS X G (.Expr e pos) (xDo me):=(ps_expr he hs).imp fun D σ H ⟨E,hr,f⟩=>⟨E,hr,(Fin.bind f).mono fun d p v H' s z=>p σ H' (hr.same s)⟩
theorem ss_if {c:Expr} {a b:List Stmt} {tc:Ev->R Bool} {ma mb:EX} (hc:ST X G c tc) (ha:SB X G a ma) (hb:SB X G b mb):SS X G (.If c a b pos) (xIf tc ma mb):=(ps_if hc ha hb).imp fun D σ H z0=>z0.elim fun E z0=>z0.elim fun hr f=>⟨E,hr,(Fin.bind f).mono fun k p H' s=>by
 cases k with
 | true=>exact ⟨E,hr.same s,p⟩
 | false=>exact ⟨E,hr.same s,p⟩⟩
noncomputable def xNever:EX:=fun _=>.no
theorem ss_never:SS X G st xNever:=ps_never.imp fun D σ H z0=>z0.elim fun E z0=>z0.elim fun hr f=>f

theorem own_slot {K:PySem.W.Frag} {E:Ev} {σ:St} {H:Hp} {i:Nat} {ds:List D} (r:Rel K G E σ H) (h:E[i]?=some (.ow (.lst ds))):∃ a vs,σ[i]?=some (some (.ref a))/\H a=some (.lst vs)/\Rps K H (Ow G.pr E σ) ds vs/\Ow G.pr E σ a:=by
 obtain ⟨a,e1,⟨vs,e2,e3⟩,_⟩:=r.ow i _ h
 exact ⟨a,vs,e1,e2,e3,.inr ⟨i,_,h,e1⟩⟩
theorem own_slotD {K:PySem.W.Frag} {E:Ev} {σ:St} {H:Hp} {i:Nat} {ds:List (List Int × D)} (r:Rel K G E σ H) (h:E[i]?=some (.ow (.dic ds))):∃ a vs,σ[i]?=some (some (.ref a))/\H a=some (.dT vs)/\Rpk K H (Ow G.pr E σ) ds vs/\Ow G.pr E σ a:=by
 obtain ⟨a,e1,⟨vs,e2,e3⟩,_⟩:=r.ow i _ h
 exact ⟨a,vs,e1,e2,e3,.inr ⟨i,_,h,e1⟩⟩
theorem pe_append {o e:Expr} {to te:TE} {apos cpos:Pos} (ho:PE X o to) (he:PE X e te) (hbase:attributeBase o "append" X.env (eval o X.env)=eval o X.env:=by rfl)
  (hfew:((backTo cpos (starEach [e] X.env)).all (fun x=>!x.1) && (backToKw cpos (keywordEach [] X.env)).all (fun x=>x.1.isSome) && decide ([e].length + ([]:List Keyword).length + (if ([]:List Keyword).isEmpty then 0 else 1) < 30))=true:=by rfl)
  (hline:(apos.endLine == cpos.line)=true:=by rfl) (hs:starEach [e] X.env=(false,eval e X.env) :: starEach [] X.env:=by rfl):PE X (.Call (.Attribute o "append" apos) [e] [] cpos) (tBM X.K "list" rAppend to (tCons te tNil)) :=
 pe_bm PySem.F.plainAttrs_list PySem.F.slot_list_append PySem.F.type_list_append mt_append ho (pa_cons he pa_nil hs) hbase hfew hline hs
theorem ss_app (i:Nat) {x:Str} {p apos cpos:Pos} (he:SF X G e me) (hN:X.N[i]?=some x:=by rfl) (hv:Vis X.env.scope x:=by first | exact Or.inl rfl | exact Or.inr (Or.inl rfl) | exact Or.inr (Or.inr rfl)) (hd:(x == ("__debug__":Str))=false:=by decide) (hcd:(x == ("__classdict__":Str))=false:=by decide)
  (hfew:((backTo cpos (starEach [e] X.env)).all (fun x=>!x.1) && (backToKw cpos (keywordEach [] X.env)).all (fun x=>x.1.isSome) && decide ([e].length + ([]:List Keyword).length + (if ([]:List Keyword).isEmpty then 0 else 1) < 30))=true:=by rfl)
  (hline:(apos.endLine == cpos.line)=true:=by rfl) (hs:starEach [e] X.env=(false,eval e X.env) :: starEach [] X.env:=by rfl)
  (hs2:swapsWith (.Call (.Attribute (.Name x p) "append" apos) [e] [] cpos) none pos.line X.env=pure false:=by rfl):SS X G (.Expr (.Call (.Attribute (.Name x p) "append" apos) [e] [] cpos) pos) (xApp i me) :=
 (ps_expr (pe_append (pe_var hN hv hd hcd) he rfl hfew hline hs) hs2).imp fun D σ H z0=>z0.elim fun E z0=>z0.elim fun hr f=>by
  unfold xApp at f
  split at f
  ·rename_i ds hi
   obtain ⟨a,vs,e1,e2,e3,e4⟩:=own_slot hr hi
   refine ⟨_,e1,.inl ⟨rfl,vs,SqL.of e2⟩,⟨E,hr,(Fin.bind f).mono fun d p v H' s z=>?_⟩⟩
   split at p
   ·rename_i hl
    have hr':=hr.same s
    refine ⟨a,vs,v,rfl,rfl,s _ _ e2,by rw [e3.length,sizeLine_eq]; omega,p _ _ (hr'.write hi e1 ⟨_,upd_same,?_⟩)⟩
    exact Rps.write e4 ((e3.mono s fun _ z=>z).append (Rps.cons z Rps.nil))
   ·exact p.elim
  ·exact f.elim
theorem ss_dput (i:Nat) {x:Str} {k v:Expr} {mk mv:EV} {p pos':Pos} (hu:X.A.units + 1 < cLine) (hk:SE X G k mk) (hv:SF X G v mv) (hN:X.N[i]?=some x:=by rfl) (hvs:Vis X.env.scope x:=by first | exact Or.inl rfl | exact Or.inr (Or.inl rfl) | exact Or.inr (Or.inr rfl)) (hd:(x == ("__debug__":Str))=false:=by decide) (hcd:(x == ("__classdict__":Str))=false:=by decide)
  (hs:swapsWith v (some (.Subscript (.Name x p) k pos')) pos.line X.env=pure false:=by rfl):SS X G (.Assign [.Subscript (.Name x p) k pos'] v pos) (xDput i mk mv) :=
 (ps_dput hu (pe_var hN hvs hd hcd) hk hv hs).imp fun D σ H z0=>z0.elim fun E z0=>z0.elim fun hr f=>by
  unfold xDput at f
  split at f
  ·rename_i kvs hi
   obtain ⟨a,vs,e1,e2,e3,e4⟩:=own_slotD hr hi
   refine ⟨E,hr,(Fin.bind f).mono fun d f v H1 s1 z1=>⟨_,e1,⟨E,hr.same s1,(Fin.bind f).mono fun k f w H2 s2 z2=>?_⟩⟩⟩
   cases ek:keyOf k with
   | none=>rw [ek] at f; exact f.elim
   | some ks =>
    rw [ek] at f
    dsimp only at f
    split at f
    ·rename_i hl
     obtain ⟨b,rfl,hb⟩:=key_of' ek z2
     have s:=s1.trans s2
     have e2':=s _ _ e2
     refine ⟨a,_,rfl,DPut.t e2' hb (by rw [e3.length,sizeLine_eq]; omega),f _ _ ((hr.same s).write hi e1 ⟨_,upd_same,?_⟩)⟩
     exact Rpk.write e4 (Rpk.put (e3.mono s fun _ z=>z) (z1.mono s2 fun _ z=>z))
    ·exact f.elim
  ·exact f.elim
theorem ss_lput (i:Nat) {x:Str} {k v:Expr} {mk mv:EV} {p pos':Pos} (hk:SE X G k mk) (hv:SF X G v mv) (hN:X.N[i]?=some x:=by rfl) (hvs:Vis X.env.scope x:=by first | exact Or.inl rfl | exact Or.inr (Or.inl rfl) | exact Or.inr (Or.inr rfl)) (hd:(x == ("__debug__":Str))=false:=by decide) (hcd:(x == ("__classdict__":Str))=false:=by decide)
  (ha:∀ u,assign (.Subscript (.Name x p) k pos') X.env u=(do
   let ov ← holding [u] (eval (.Name x p) X.env)
   let iv ← holding [u,ov] (eval k X.env)
   standAt pos'
   holding [u,ov,iv] (setItem ov iv u)
   release [u,ov,iv] []):=by intro _; rfl)
  (hs:swapsWithSole [.Subscript (.Name x p) k pos'] v pos.line X.env=pure false:=by rfl) (hw:swappedStores [.Subscript (.Name x p) k pos'] v X.env=pure none:=by rfl)
  (h1:(assignEach [.Subscript (.Name x p) k pos'] X.env).map (·.2)=[assign (.Subscript (.Name x p) k pos') X.env]:=by rfl):SS X G (.Assign [.Subscript (.Name x p) k pos'] v pos) (xLput i mk mv) :=
 (ps_asg hv (pg_sub (pe_var hN hvs hd hcd) hk set_list ha) hs hw h1).imp fun D σ H z0=>z0.elim fun E z0=>z0.elim fun hr f=>by
  unfold xLput at f
  split at f
  ·rename_i ds hi
   obtain ⟨a,vs,e1,e2,e3,e4⟩:=own_slot hr hi
   refine ⟨E,hr,(Fin.bind f).mono fun d f v H1 s1 z1=>⟨_,e1,⟨E,hr.same s1,(Fin.bind f).mono fun k f w H2 s2 z2=>?_⟩⟩⟩
   cases k with
   | int n =>
    dsimp only at f
    split at f
    ·rename_i j hj
     have s:=s1.trans s2
     have e2':=s _ _ e2
     refine ⟨a,vs,n,j,rfl,z2.int,e2',by rw [e3.length]; exact hj,f _ _ ((hr.same s).write hi e1 ⟨_,upd_same,?_⟩)⟩
     exact Rps.write e4 (Rps.set (z1.mono s2 fun _ z=>z) j (e3.mono s fun _ z=>z))
    ·exact f.elim
   | _=>exact f.elim
  ·exact f.elim
end
end M

set_option Elab.async false
set_option linter.all false
set_option maxRecDepth 100000
namespace M
open PySem PySem.Spec PyProof.Rows L2

structure Gd (X:Cx):Prop where
 calm:X.calm=true
 po:PassesOwn (model X.prog X.w) X.A X.env X.xe
 nd:X.N.Nodup
 un:X.A.units + 40 < cLine

noncomputable def SlotOwn (E:Ev) (σ:St) (a:Addr):Prop:=∃ (i:Nat) (d:D),E[i]?=some (.ow d)/\σ[i]?=some (some (.ref a))
open Classical in
noncomputable def Fc.lock (G:Fc) (E:Ev) (σ:St) (H:Hp):Fc:={ h0:=fun a=>if SlotOwn E σ a then none else H a,pr:=G.pr,xc:=G.xc }
section
variable {K:PySem.W.Frag} {G:Fc} {E:Ev} {σ:St} {H H':Hp}
theorem lock_at {a:Addr} (h:¬ SlotOwn E σ a):(G.lock E σ H).h0 a=H a:=by unfold Fc.lock; simp [h]
theorem Rel.noOwn (r:Rel K G E σ H) {a:Addr} {o:HO} (h:G.h0 a=some o):¬ SlotOwn E σ a:=by
 rintro ⟨i,d,h1,h2⟩
 obtain ⟨b,e1,_,e3⟩:=r.ow i d h1
 rw [h2] at e1; cases e1
 rw [h] at e3; cases e3
theorem Rel.sub (r:Rel K G E σ H):Same G.h0 (G.lock E σ H).h0:=fun a o h=>by rw [lock_at (r.noOwn h)]; exact r.base _ _ h
theorem Rel.lock (r:Rel K G E σ H):Rel K (G.lock E σ H) E σ H where
 len:=r.len
 fz:=r.fz
 ow:=fun i d h=>by
  obtain ⟨a,e1,e2,e3⟩:=r.ow i d h
  refine ⟨a,e1,e2,?_⟩
  have:SlotOwn E σ a:=⟨i,d,h,e1⟩
  unfold Fc.lock; simp [this]
 ne:=r.ne
 base:=fun a o h=>by
  unfold Fc.lock at h
  dsimp only at h
  split at h
  ·cases h
  ·exact h
 prt:=fun a h=>by
  obtain ⟨o,e,n⟩:=r.prt a h
  exact ⟨_,by rw [lock_at (r.noOwn e)]; exact r.base _ _ e,n⟩
theorem Rel.weak {G':Fc} (r:Rel K G' E σ H) (s:Same G.h0 G'.h0) (e:G'.pr=G.pr) (p:∀ a,G.pr a->∃ o,G.h0 a=some o/\NoTup o):Rel K G E σ H where
 len:=r.len
 fz:=by rw [<-e]; exact r.fz
 ow:=fun i d h=>by
  rw [<-e]
  obtain ⟨a,e1,e2,e3⟩:=r.ow i d h
  refine ⟨a,e1,e2,?_⟩
  cases q:G.h0 a with
  | none=>rfl
  | some o=>rw [s _ _ q] at e3; cases e3
 ne:=r.ne
 base:=s.trans r.base
 prt:=p
end
structure Fc.Le (G G':Fc):Prop where
 h0:Same G.h0 G'.h0
 pr:∀ a o,G.h0 a=some o->G'.pr a->G.pr a
 sub:∀ a,G.pr a->G'.pr a
theorem Fc.Le.refl (G:Fc):G.Le G:=⟨Same.refl _,fun _ _ _ h=>h,fun _ h=>h⟩
theorem locked {K:PySem.W.Frag} {G G':Fc} {E E':Ev} {σ σ':St} {H H':Hp} (le:(G.lock E σ H).Le G') (r:Rel K G' E' σ' H'):∀ a o,¬ Ow G.pr E σ a->H a=some o->H' a=some o/\¬ Ow G'.pr E' σ' a:=fun a o no h=>by
 have hl:(G.lock E σ H).h0 a=some o:=by rw [lock_at fun z=>no (.inr z)]; exact h
 have hl':=le.h0 _ _ hl
 refine ⟨r.base _ _ hl',fun z=>?_⟩
 rcases z with z | ⟨i,d,h1,h2⟩
 ·exact no (.inl (le.pr _ _ hl z))
 ·obtain ⟨b,e1,_,e3⟩:=r.ow i d h1
  rw [h2] at e1; cases e1
  rw [hl'] at e3; cases e3
noncomputable def ItOk (K:PySem.W.Frag) (G0:Fc) (J:It) (ds:List D):Prop :=
 ∀ (G:Fc) (E:Ev) (σ:St) (H:Hp),G0.Le G->Rel K G E σ H->J.stop ds.length H/\∀ (i:Nat) (d:D),ds[i]?=some d->J.go i H/\∀ x H',J.yld i H x H'->Same H H'/\Rp K H' (Ow G.pr E σ) d x
noncomputable def SI (X:Cx) (G:Fc) (tg iter:Expr) (m:Ev->R (List D)):Prop :=
 PI X tg iter fun σ H Rr=>∃ E,Rel X.K G E σ H/\Fin (m E) (fun ds=>∀ J H1,Same H H1->ItOk X.K (G.lock E σ H1) J ds->Rr J H1) G.xc
noncomputable def SG (X:Cx) (tg:Expr) (ts:List Nat) (set:D->Ev->Option Ev):Prop :=
 ∃ g,PG X tg g/\∀ (G:Fc) (E E':Ev) (σ:St) (H:Hp) (d:D) (v:V) (Q:St->Hp->Prop),Rel X.K G E σ H->Rp X.K H (Ow G.pr E σ) d v->set d E=some E'->(∀ σ',(∀ j,j ∉ ts->σ'[j]?=σ[j]?)->Rel X.K G E' σ' H->Q σ' H)->g v σ H Q
noncomputable def gN (i:Nat):D->Ev->Option Ev:=fun d E=>some (E.set i (.fz d))
noncomputable def gT (i j:Nat):D->Ev->Option Ev:=fun d E=>match d with
 | .tup [a,b]=>some ((E.set i (.fz a)).set j (.fz b))
 | _=>none
noncomputable def forL (set:D->Ev->Option Ev) (b:EX):List D->Ev->R Out
 | [],E=>.ok (.nx E)
 | d :: ds,E=>match set d E with
  | none=>.no
  | some E1=>b E1 >>= fun o=>match o with
   | .nx E2=>forL set b ds E2
   | .ct E2=>forL set b ds E2
   | .bk E2=>.ok (.nx E2)
   | .rt d=>.ok (.rt d)
noncomputable def xFor (mi:Ev->R (List D)) (set:D->Ev->Option Ev) (b:EX):EX:=fun E=>mi E >>= fun ds=>forL set b ds E
noncomputable def whlN (c:Ev->R Bool) (b:EX):Nat->Ev->R Out
 | 0,_=>.no
 | n + 1,E=>c E >>= fun k=>if k=true then (b E >>= fun o=>match o with
   | .nx E2=>whlN c b n E2
   | .ct E2=>whlN c b n E2
   | .bk E2=>.ok (.nx E2)
   | .rt d=>.ok (.rt d)) else .ok (.nx E)
section
variable {X:Cx} {G:Fc} {tg iter:Expr} {body:List Stmt} {pos:Pos} {mi:Ev->R (List D)} {set:D->Ev->Option Ev} {mb:EX}
theorem sg_name (gd:Gd X) (i:Nat) {x:Str} {pos:Pos} (hi:X.N[i]?=some x:=by rfl) (hx:Loc X.env.scope x:=by first | exact Or.inl rfl | exact Or.inr rfl) (hf:X.fn x=true\/X.env.scope.names.lookup x=some .local:=by first | exact .inl rfl | exact .inr rfl | assumption):SG X (.Name x pos) [i] (gN i) :=
 ⟨_,pg_name gd.nd hi hx hf,fun G E E' σ H d v Q r p e k=>by
  unfold gN at e; cases e
  exact k _ (fun j hj=>set_ne (by simpa using hj)) (r.setF p)⟩
theorem sg_two (gd:Gd X) (i j:Nat) {x y:Str} {px py pos:Pos} {kk:Nat} (hi:X.N[i]?=some x:=by rfl) (hj:X.N[j]?=some y:=by rfl) (hx:Loc X.env.scope x:=by first | exact Or.inl rfl | exact Or.inr rfl) (hy:Loc X.env.scope y:=by first | exact Or.inl rfl | exact Or.inr rfl)
  (hf:X.fn x=true\/X.env.scope.names.lookup x=some .local:=by first | exact .inl rfl | exact .inr rfl | assumption) (hf':X.fn y=true\/X.env.scope.names.lookup y=some .local:=by first | exact .inl rfl | exact .inr rfl | assumption)
  (h1:(assignEach [Expr.Name x px,.Name y py] X.env).map (·.2)=assign (.Name x px) X.env :: (assignEach [.Name y py] X.env).map (·.2):=by rfl) (h2:(assignEach [Expr.Name y py] X.env).map (·.2)=assign (.Name y py) X.env :: (assignEach [] X.env).map (·.2):=by rfl)
  (hn:(assignEach [Expr.Name x px,.Name y py] X.env).length=2:=by rfl) (hst:(assignEach [Expr.Name x px,.Name y py] X.env).findIdx? (·.1)=none:=by rfl):SG X (.Tuple [.Name x px,.Name y py] kk pos) [i,j] (gT i j) :=
 ⟨_,pg_tup gd.calm (pgs_cons (pg_name gd.nd hi hx hf) (pgs_cons (pg_name gd.nd hj hy hf') pgs_nil h2) h1) hn hst,fun G E E' σ H d v Q r p e k=>by
  unfold gT at e
  split at e
  ·rename_i a b
   cases e
   unfold Rp at p
   obtain ⟨l,vs,rfl,no,hl,rs⟩:=p
   unfold Rps at rs
   obtain ⟨v1,r1,rfl,p1,rs⟩:=rs
   unfold Rps at rs
   obtain ⟨v2,r2,rfl,p2,rs⟩:=rs
   unfold Rps at rs
   subst rs
   refine ⟨l,[v1,v2],rfl,SqT.of hl,rfl,v1,[v2],rfl,v2,[],rfl,rfl,k _ (fun k hk=>by
    simp only [List.mem_cons,not_or] at hk
    rw [set_ne hk.2.1,set_ne hk.1]) ((r.setF p1).setF (p2.mono (Same.refl _) fun _ z=>z.setF))⟩
  ·cases e⟩
theorem ss_for {ts:List Nat} (gd:Gd X) (hi:SI X G tg iter mi) (hg:SG X tg ts set) (hb:∀ G',G'.xc=G.xc->SB X G' body mb) (hs:∀ x,foldedSetIterable iter X.env x=pure x:=by intro _; rfl):SS X G (.For tg iter body [] pos) (xFor mi set mb):=by
 obtain ⟨g,hg,hset⟩:=hg
 rintro pins s σ0 H0 Dn I ⟨E0,hr0,f0⟩
 -- the body's reading hangs on the lock: choose it within the rule
 have key:∀ (G':Fc),G'.xc=G.xc->PS X (.For tg iter body [] pos) (tFor (fun σ H Rr=>∃ E,Rel X.K G E σ H/\Fin (mi E) (fun ds=>∀ J H1,Same H H1->ItOk X.K (G.lock E σ H1) J ds->Rr J H1) G.xc) g
   (fun Dn σ H=>∃ G',G'.xc=G.xc/\∃ E,Rel X.K G' E σ H/\Fin (mb E) (OutOk X.K G' Dn) G'.xc)):=fun G' hG' =>
  ps_for gd.po gd.calm hi hg (fun pins s σ H D I ⟨G',e,h⟩=>hb G' e pins s σ H D I h) hs
 refine key G rfl pins s σ0 H0 Dn I ⟨E0,hr0,(Fin.bind f0).mono fun ds f J H1 s1 it=>?_⟩
 have hr1:=hr0.same s1
 have hsub:=hr1.sub
 have wk:∀ {E:Ev} {σ:St} {H:Hp},Rel X.K (G.lock E0 σ0 H1) E σ H->Rel X.K G E σ H:=fun r=>r.weak hsub rfl hr0.prt
 refine ⟨fun i m σ H=>∃ E,Rel X.K (G.lock E0 σ0 H1) E σ H/\i<=ds.length/\m=ds.length - i/\Fin (forL set mb (ds.drop i) E) (OutOk X.K G Dn) G.xc,⟨ds.length,E0,hr1.lock,Nat.zero_le _,by simp,by simpa using f⟩,?_⟩
 rintro i m σ H ⟨E,r,hi',rfl,f⟩
 obtain ⟨h1,h2⟩:=it _ E σ H (Fc.Le.refl _) r
 by_cases hlt:i < ds.length
 ·obtain ⟨go,yl⟩:=h2 i ds[i] (by simp [hlt])
  rw [List.drop_eq_getElem_cons hlt] at f
  unfold forL at f
  cases hse:set ds[i] E with
  | none=>rw [hse] at f; exact f.elim
  | some E1 =>
   rw [hse] at f
   refine .inr ⟨go,fun σ' H'=>∃ E2,Rel X.K (G.lock E0 σ0 H1) E2 σ' H'/\Fin (forL set mb (ds.drop (i + 1)) E2) (OutOk X.K G Dn) G.xc,fun σ' H' ⟨E2,r2,f2⟩=>⟨ds.length - (i + 1),by omega,E2,r2,hlt,rfl,f2⟩,fun x H' y=>?_⟩
   obtain ⟨s2,px⟩:=yl x H' y
   refine hset _ E E1 σ H' ds[i] x _ (r.same s2) px hse fun σ' _ r'=>⟨G.lock E0 σ0 H1,rfl,E1,r',(Fin.bind f).mono fun o p=>?_⟩
   cases o with
   | nx E2=>exact fun σ2 H2 r2=>⟨E2,r2,p⟩
   | ct E2=>exact fun σ2 H2 r2=>⟨E2,r2,p⟩
   | bk E2=>exact fun σ2 H2 r2=>p σ2 H2 (wk r2)
   | rt d=>exact fun v H2 s2 z=>p v H2 (hsub.trans s2) z
 ·have e:i=ds.length:=by omega
  subst e
  rw [List.drop_length] at f
  exact .inl ⟨h1,f σ H (wk r)⟩
noncomputable def iD (m:EV):Ev->R (List D):=fun E=>m E >>= fun d=>match d with
 | .lst ds=>.ok ds
 | _=>.no
noncomputable def iT (m:EV):Ev->R (List D):=fun E=>m E >>= fun d=>match d with
 | .tup ds=>.ok ds
 | _=>.no
noncomputable def iR1 (m:EV):Ev->R (List D):=fun E=>m E >>= fun d=>match d with
 | .int n=>if n.natAbs < 1000000 then .ok ((List.range n.toNat).map fun (k:Nat)=>D.int (k:Int)) else .no
 | _=>.no
noncomputable def iR2 (m n:EV):Ev->R (List D):=fun E=>m E >>= fun d=>n E >>= fun e=>match d,e with
 | .int a,.int b=>if a.natAbs < 1000000/\b.natAbs < 1000000 then .ok ((List.range (b - a).toNat).map fun (k:Nat)=>D.int (a + (k:Int))) else .no
 | _,_=>.no
theorem _root_.L2.PI.imp {X:Cx} {tg e:Expr} {t t':TI} (h:PI X tg e t) (i:∀ σ H Q,t' σ H Q->t σ H Q):PI X tg e t':=fun pins s σ H Q I q=>h pins s σ H Q I (i σ H Q q)
theorem si_list {m:EV} (h:SF X G iter m):SI X G tg iter (iD m):=(pi_list h).imp fun σ H Q z0=>z0.elim fun E z0=>z0.elim fun hr f=>⟨E,hr,(Fin.bind f).mono fun d p v H1 s1 z=>by
 cases d with
 | lst ds =>
  have z':=z
  unfold Rp at z
  obtain ⟨a,vs,rfl,no,ha,rs⟩:=z
  refine ⟨a,rfl,⟨vs,SqL.of ha⟩,p _ H1 s1 fun G' E' σ' H' le r'=>?_⟩
  have hl':=(locked le r' _ _ no ha).1
  refine ⟨⟨vs,SqL.of hl',by rw [rs.length]; exact Nat.le_refl _⟩,fun i d hd=>?_⟩
  obtain ⟨v,hv,pv⟩:=rs.get hd
  refine ⟨⟨vs,v,SqL.of hl',hv⟩,?_⟩
  rintro x H'' ⟨e,y⟩
  subst e
  refine ⟨Same.refl _,?_⟩
  have:=y vs (SqL.of hl')
  rw [hv] at this; cases this
  exact pv.move (locked le r')
 | _=>exact p.elim⟩
theorem it_range {K:PySem.W.Frag} {G:Fc} (lo:Int) (n:Nat):ItOk K G (Itr lo n) ((List.range n).map fun (k:Nat)=>D.int (lo + (k:Int))):=fun G' E σ H le r=>by
 refine ⟨by simp [Itr],fun i d hd=>?_⟩
 rw [List.getElem?_map] at hd
 have hi:i < n:=by
  by_cases h:i < n
  ·exact h
  ·rw [List.getElem?_eq_none (by simpa using h)] at hd; cases hd
 rw [List.getElem?_range hi] at hd
 cases hd
 refine ⟨hi,fun x H' y=>?_⟩
 obtain ⟨rfl,rfl⟩:=y
 exact ⟨Same.refl _,by unfold Rp; rfl⟩
theorem si_range1 {a:Expr} {m:EV} {p pos:Pos} (hg:Gl X "range") (hm:X.mg "range"=none) (ha:SF X G a m) (hs:starEach [a] X.env=[(false,eval a X.env)]:=by rfl):SI X G tg (.Call (.Name "range" p) [a] [] pos) (iR1 m) :=
 (pi_range1 hg hm (pa_cons ha pa_nil hs) hs).imp fun σ H Q z0=>z0.elim fun E z0=>z0.elim fun hr f=>⟨E,hr,(Fin.bind f).mono fun d p v H1 s1 z=>by
  cases d with
  | int n =>
   dsimp only at p
   split at p
   ·rename_i hn
    unfold Rp at z
    subst z
    refine ⟨n,rfl,by omega (config:={}),by omega (config:={}),p _ H1 s1 ?_⟩
    have:=it_range (K:=X.K) (G:=G.lock E σ H1) 0 n.toNat
    simp only [Int.zero_add] at this
    exact this
   ·exact p.elim
  | _=>exact p.elim⟩
theorem si_tup {m:EV} (h:SF X G iter m):SI X G tg iter (iT m):=(pi_tup h).imp fun σ H Q z0=>z0.elim fun E z0=>z0.elim fun hr f=>⟨E,hr,(Fin.bind f).mono fun d p v H1 s1 z=>by
 cases d with
 | tup ds =>
  unfold Rp at z
  obtain ⟨a,vs,rfl,no,ha,rs⟩:=z
  refine ⟨a,rfl,⟨vs,SqT.of ha⟩,p _ H1 s1 fun G' E' σ' H' le r'=>?_⟩
  have hl':=(locked le r' _ _ no ha).1
  refine ⟨⟨vs,SqT.of hl',by rw [rs.length]; exact Nat.le_refl _⟩,fun i d hd=>?_⟩
  obtain ⟨v,hv,pv⟩:=rs.get hd
  refine ⟨⟨vs,v,SqT.of hl',hv⟩,?_⟩
  rintro x H'' ⟨e,y⟩
  subst e
  refine ⟨Same.refl _,?_⟩
  have:=y vs (SqT.of hl')
  rw [hv] at this; cases this
  exact pv.move (locked le r')
 | _=>exact p.elim⟩
end

noncomputable def spD (K:PySem.W.Frag) (n:Nat) (den:List D->R D):Sp:=fun vs H Q _=>vs.length=n/\∃ (pr:Addr->Prop) (ds:List D),(∀ a,pr a->∃ o,H a=some o/\NoTup o)/\Rps K H pr ds vs/\Fin (den ds) (fun d=>∀ v H',Same H H'->Rp K H' pr d v->Q v H') fun _=>False
noncomputable def ended (r:R Out):R D:=r >>= fun o=>match o with
 | .rt d=>.ok d
 | .nx _=>.ok .non
 | _=>.no
noncomputable def startE (n:Nat) (ds:List D):Ev:=ds.map Sl.fz++List.replicate (n - ds.length) .un
noncomputable def den (n:Nat) (m:EX):List D->R D:=fun ds=>ended (m (startE n ds))
theorem rel_start {K:PySem.W.Frag} {H:Hp} {pr:Addr->Prop} {xc:Nat->Prop} {N:List Str} {ds:List D} {vs:List V} (hp:∀ a,pr a->∃ o,H a=some o/\NoTup o) (r:Rps K H pr ds vs):Rel K ⟨H,pr,xc⟩ (startE N.length ds) (L2.start N vs) H:=by
 have none_ow:∀ (i:Nat) d,(startE N.length ds)[i]? ≠ some (.ow d):=fun i d h=>by
  unfold startE at h
  rcases Nat.lt_or_ge i (ds.map Sl.fz).length with hi | hi
  ·rw [List.getElem?_append_left hi,List.getElem?_map] at h
   cases q:ds[i]? with
   | none=>rw [q] at h; cases h
   | some x=>rw [q] at h; cases h
  ·rw [List.getElem?_append_right hi,List.getElem?_replicate] at h
   split at h<;>cases h
 refine ⟨?_,fun i d h=>?_,fun i d h=>absurd h (none_ow i d),fun i j d e a h=>absurd h (none_ow i d),Same.refl _,hp⟩
 ·unfold startE L2.start
  simp [r.length]
 ·unfold startE at h
  rcases Nat.lt_or_ge i (ds.map Sl.fz).length with hi | hi
  ·rw [List.getElem?_append_left hi,List.getElem?_map] at h
   cases q:ds[i]? with
   | none=>rw [q] at h; cases h
   | some x =>
    rw [q] at h; cases h
    obtain ⟨v,e,p⟩:=r.get q
    refine ⟨v,?_,p.mono (Same.refl _) fun a z=>?_⟩
    ·unfold L2.start
     rw [List.getElem?_append_left (by rw [List.length_map,r.length]; simpa using hi),List.getElem?_map,e]; rfl
    ·rcases z with z | ⟨j,d',z,_⟩
     ·exact z
     ·exact absurd z (none_ow j d')
  ·rw [List.getElem?_append_right hi,List.getElem?_replicate] at h
   split at h<;>cases h
noncomputable abbrev bx (P:Program) (w:World) (K:PySem.W.Frag) (mg:Str->Option Value) (base:Heap) (N:List Str) (qual:Str) (sc:Scope) (f:Addr) (cdv:Value) (A:Around) (outer:List Env) (s:Shared) (H:Hp) (E:XK):Cx:=(cxOf CX0 P w K mg base N qual sc f cdv A outer s H E).nox
section
variable {P:Program} {w:World} {K:PySem.W.Frag} {mg:Str->Option Value} {base:Heap} {x qual:Str} {st:Stmt} {f:Addr} {fd:FuncData} {N ps:List Str} {k:Nat} {m:EX}
end
section
variable {X:Cx} {G:Fc} {k:Nat} {f:Addr} {fd:FuncData} {ps:List Str} {dn:List D->R D} {x:Str} {p pos:Pos} {e:Expr} {es:List Expr} {ma:Ev->R (List D)}
noncomputable def eCall (n:Nat) (dn:List D->R D) (ma:Ev->R (List D)):EV:=fun E=>ma E >>= fun ds=>if ds.length=n then dn ds else .no
theorem sf_call {n:Nat} (F:FnOk X.prog X.w X.K X.mg X.base CX0 k f fd ps (spD X.K n dn)) (hx:∀ c,¬ G.xc c) (hr:Room k X.A) (hg:Gl X x) (hm:X.mg x=some (.ref f)) (hk:PySem.W.keepIn X.K (.ref f)=true) (hb:Binds X.K fd ps [])
  (ha:SA X G (e :: es) ma) (hdb:(x == ("__debug__":Str))=false:=by decide) (he:starEach (e :: es) X.env=(false,eval e X.env) :: starEach es X.env:=by rfl) (hpl:(backTo pos (starEach es X.env)).any (·.1)=false:=by rfl) :
  SF X G (.Call (.Name x p) (e :: es) [] pos) (eCall n dn ma) :=
 (pe_call F hr hg hm hk hb .nil pass0 ha hdb he hpl).imp fun σ H Q z0=>z0.elim fun E z0=>z0.elim fun hr f=>⟨E,hr,(Fin.bind f).mono fun ds p vs H1 s1 rs=>by
  split at p
  ·rename_i hl
   refine ⟨by rw [List.append_nil,rs.length]; exact hl,Ow G.pr E σ,ds,fun a z=>(hr.same s1).owned z,by rw [List.append_nil]; exact rs,?_⟩
   revert p
   cases dn ds with
   | ok d=>exact fun p v H' s z=>p v H' (s1.trans s) z
   | er c=>exact fun p=>hx c p
   | no=>exact fun p=>p
  ·exact p.elim⟩
end
end M

set_option Elab.async false
set_option linter.all false
set_option maxRecDepth 100000
namespace M
open PySem PySem.Spec PyProof.Rows L2

section
variable {prog:Program} {w:World} {A:Around} {R:Result->Shared->Prop} {s:Shared}
theorem compLoop_go {elt target iter:Expr} {ifs:List Expr} {scope:Scope} {pos:Pos} {it acc:Value} {env:Env} (I:Nat->Shared->Prop)
  (turn:∀ n s,I n s->wpAny (model prog w) A (pyNext it) (fun r s₁=>match r with
   | none=>R (.ok .next) s₁
   | some v=>wpAny (model prog w) A (letOwnedTupleGo target it v) (fun _ s₁'=>wpAny (model prog w) A (assign target env v) (fun _ s₂ =>
     wpAny (model prog w) A (forIn ifs true fun c r=>if r=true then do let ok ← isTrue c env (eval c env); pure (ForInStep.yield ok) else pure (ForInStep.yield r)) (fun ok s₃ =>
      if ok=true then wpAny (model prog w) A (eval elt env) (fun x s₄ =>
       wpAny (model prog w) A (call (.builtin "list.append") [acc,x]) (fun _ s₅=>∃ m,m < n/\I m s₅) (fun _ _=>False) s₄) (fun _ _=>False) s₃
      else ∃ m,m < n/\I m s₃) (fun _ _=>False) s₂) (fun _ _=>False) s₁') (fun _ _=>False) s₁) (fun _ _=>False) s)
  (n:Nat) (h:I n s):codeAny (model prog w) A (.compLoop (.ListComp elt [⟨target,iter,ifs,0⟩] scope pos) 0 it acc env) R s:=by
 refine codeAny_loop rfl I (fun n s hI=>?_) n h
 show wpAny _ A ((compTurn (.ListComp elt [⟨target,iter,ifs,0⟩] scope pos) 0 it acc env).onRaise (fun x=>do noteFrame x env; theTreesLotGoes x)) _ _ s
 refine wpAny_noted ?_
 rw [compTurn_list]
 refine wpAny_bind (wpAny_standAt (wpAny_bind (wpAny_mono (turn n s hI) (fun r s₁ h₁=>?_) fun _ _ h'=>h'.elim)))
 cases r with
 | none=>exact wpAny_pure h₁
 | some v =>
  refine wpAny_bind (wpAny_mono h₁ (fun _ s₁' h₁'=>?_) fun _ _ h'=>h'.elim)
  refine wpAny_bind (wpAny_mono h₁' (fun _ s₂ h₂=>wpAny_bind (wpAny_mono h₂ (fun ok s₃ h₃=>?_) fun _ _ h'=>h'.elim)) fun _ _ h'=>h'.elim)
  cases ok with
  | false=>exact wpAny_pure ⟨rfl,h₃⟩
  | true =>
   exact wpAny_bind (wpAny_bind (wpAny_mono h₃ (fun x s₄ h₄=>wpAny_bind (wpAny_mono h₄ (fun _ s₅ h₅=>wpAny_pure (wpAny_pure ⟨rfl,h₅⟩)) fun _ _ h'=>h'.elim)) fun _ _ h'=>h'.elim))
end

noncomputable def clOf (names:List (Str × NameKind)) (env:Env):List (Str × Addr)->List (Str × Addr)
 | cs=>names.foldl (fun cs p=>if p.2 == .free then match env.cells.lookup p.1 with | some a=>(p.1,a) :: cs | none=>cs else cs) cs
theorem clOf_cons {env:Env} {cs:List (Str × Addr)} {p:Str × NameKind} {r:List (Str × NameKind)}:clOf (p :: r) env cs=clOf r env (if p.2 == .free then match env.cells.lookup p.1 with | some a=>(p.1,a) :: cs | none=>cs else cs):=rfl
theorem closure_eq {scope:Scope} {env:Env} (h:∀ p ∈ scope.names,p.2=.free->∃ c,env.cells.lookup p.1=some c):closureFor scope env=pure (clOf scope.names env []):=by
 unfold closureFor
 have go:∀ (l:List (Str × NameKind)) (cs:List (Str × Addr)),(∀ p ∈ l,p.2=.free->∃ c,env.cells.lookup p.1=some c) →
   (forIn l cs fun (x:Str × NameKind) r=>(match x with | (name,kind)=>if (kind == NameKind.free)=true then do let a ← cellOf env name; pure (ForInStep.yield ((name,a) :: r)) else pure (ForInStep.yield r):Sem (ForInStep (List (Str × Addr)))))=pure (clOf l env cs):=by
  intro l
  induction l with
  | nil=>intro cs _; rfl
  | cons p r ih =>
   intro cs hp
   obtain ⟨name,kind⟩:=p
   rw [List.forIn_cons]
   dsimp only
   by_cases hk:kind=.free
   ·subst hk
    obtain ⟨c,hc⟩:=hp _ List.mem_cons_self rfl
    have e1:cellOf env name=pure c:=by unfold cellOf; rw [show env.cells.lookup name=some c from hc]
    simp only [beq_self_eq_true,if_true,e1,pure_bind]
    rw [ih _ fun q hq=>hp q (List.mem_cons_of_mem _ hq),clOf_cons]
    simp only [beq_self_eq_true,if_true]
    rw [show env.cells.lookup name=some c from hc]
   ·have hb:(kind == NameKind.free)=false:=by simpa using hk
    simp only [hb,Bool.false_eq_true,if_false,pure_bind]
    rw [ih _ fun q hq=>hp q (List.mem_cons_of_mem _ hq),clOf_cons]
    simp only [hb,Bool.false_eq_true,if_false]
 have:=go scope.names [] h
 simp only [bind_pure]
 exact this
theorem clOf_mem {env:Env}:∀ {l:List (Str × NameKind)} {cs:List (Str × Addr)} {x:Str} {c:Addr},(clOf l env cs).lookup x=some c->cs.lookup x=some c\/((x,.free) ∈ l/\env.cells.lookup x=some c)
 | [],cs,x,c,h=>.inl h
 | (n,k) :: r,cs,x,c,h=>by
  rw [clOf_cons] at h
  rcases clOf_mem h with h | ⟨h1,h2⟩
  ·by_cases hk:k=.free
   ·subst hk
    simp only [beq_self_eq_true,if_true] at h
    cases e:env.cells.lookup n with
    | none=>rw [e] at h; exact .inl h
    | some a =>
     rw [e] at h
     dsimp only at h
     rw [List.lookup_cons] at h
     cases hx:x == n with
     | true =>
      rw [hx] at h
      cases h
      have:=eq_of_beq hx
      subst this
      exact .inr ⟨List.mem_cons_self,e⟩
     | false=>rw [hx] at h; exact .inl h
   ·have hb:(k == NameKind.free)=false:=by simpa using hk
    simp only [hb,Bool.false_eq_true,if_false] at h
    exact .inl h
  ·exact .inr ⟨List.mem_cons_of_mem _ h1,h2⟩
theorem clOf_keep {env:Env} {x:Str}:∀ {l:List (Str × NameKind)} {cs:List (Str × Addr)},(∃ c,cs.lookup x=some c)->∃ c,(clOf l env cs).lookup x=some c
 | [],cs,h=>h
 | (n,k) :: r,cs,h=>by
  rw [clOf_cons]
  apply clOf_keep
  by_cases hk:(k == NameKind.free)=true
  ·rw [if_pos hk]
   cases e:env.cells.lookup n with
   | none=>exact h
   | some a =>
    dsimp only
    rw [List.lookup_cons]
    cases hx:x == n with
    | true=>exact ⟨a,rfl⟩
    | false=>exact h
  ·rw [if_neg hk]; exact h
theorem clOf_has {env:Env} {x:Str} {c:Addr} (hc:env.cells.lookup x=some c):∀ {l:List (Str × NameKind)} {cs:List (Str × Addr)},(x,.free) ∈ l->∃ c,(clOf l env cs).lookup x=some c
 | [],cs,h=>by simp at h
 | (n,k) :: r,cs,h=>by
  rw [clOf_cons]
  rcases List.mem_cons.mp h with h | h
  ·cases h
   apply clOf_keep
   simp only [beq_self_eq_true,if_true]
   rw [hc]
   exact ⟨c,by simp [List.lookup_cons]⟩
  ·exact clOf_has hc h
noncomputable def cxc (X:Cx) (scope:Scope) (s3:Shared) (H3:Hp) (fp:List Addr) (C:Addr):Cx :=
 { X with env:=compEnvC scope (clOf scope.names X.env []) C X.env,outer:=X.stack,s₀:=s3,H₀:=H3,ex:=fp,fn:=fun x=>decide (scope.names.lookup x=some .local),pn:=[],xe:=fun _ _=>False }
structure CScope (X:Cx) (scope:Scope):Prop where
 kind:scope.kind=.function
 nocell:∀ y ∈ scope.names,y.2 ≠ .cell
 names:∀ y ∈ scope.names,scope.names.lookup y.1=some y.2
 free:∀ y ∈ scope.names,y.2=.free->X.env.kindOf y.1=some .cell\/X.env.kindOf y.1=some .free
section
variable {X:Cx} {scope:Scope} {pins:List (Addr × Obj)} {σ:St} {H:Hp} {s:Shared}
theorem relabel_lookup {env:Env}:∀ {names:List (Str × NameKind)} {x:Str} {k:NameKind},(names.map fun (n,k)=>if (k == NameKind.free && env.scope.kind == .function && env.kindOf n == some .cell) then (n,NameKind.cell) else (n,k)).lookup x=some k →
  ∃ k0,names.lookup x=some k0/\(k=k0\/(k0=.free/\k=.cell))
 | [],x,k,h=>by simp at h
 | (n,k0) :: r,x,k,h=>by
  rw [List.map_cons] at h
  have key:∀ p:Str × NameKind,p.1=n->(p.2=k0\/(k0=.free/\p.2=.cell))->List.lookup x (p :: List.map (fun (n,k)=>if (k == NameKind.free && env.scope.kind == .function && env.kindOf n == some .cell) then (n,NameKind.cell) else (n,k)) r)=some k →
    ∃ k0',List.lookup x ((n,k0) :: r)=some k0'/\(k=k0'\/(k0'=.free/\k=.cell)):=fun p hp hk hl=>by
   obtain ⟨p1,p2⟩:=p
   dsimp only at hp hk
   subst hp
   rw [List.lookup_cons] at hl ⊢
   cases hx:x == p1 with
   | true=>rw [hx] at hl; cases hl; exact ⟨k0,rfl,hk⟩
   | false=>rw [hx] at hl; exact relabel_lookup hl
  dsimp only at h
  split at h
  ·rename_i hc
   refine key _ rfl (.inr ⟨?_,rfl⟩) h
   simp only [Bool.and_eq_true,beq_iff_eq] at hc
   exact hc.1.1
  ·exact key _ rfl (.inl rfl) h
theorem cxc_ok (S:CScope X scope) (I:Inv X pins σ H s) {fp:List Addr} (f:∀ b ∈ fp,FpOk X pins H b) (lt:∀ b ∈ fp,b < s.heap.objs.size):(cxc X scope s H fp s.heap.objs.size).Ok where
 mod:=I.ok.mod
 kind:=S.kind
 glob:=I.ok.glob
 blt:=I.ok.blt
 above:=Nat.le_refl _
 inj:=fun x y c h1 h2=>by
  rcases clOf_mem h1 with h | ⟨_,h1⟩
  ·simp at h
  rcases clOf_mem h2 with h | ⟨_,h2⟩
  ·simp at h
  exact I.ok.inj x y c h1 h2
 has:=fun x hx=>by
  have hx':∃ k,(relabel scope X.env).names.lookup x=some k/\(k=.cell\/k=.free):=by
   rcases hx with hx | hx
   ·exact ⟨_,hx,.inl rfl⟩
   ·exact ⟨_,hx,.inr rfl⟩
  obtain ⟨k,hk,hk2⟩:=hx'
  obtain ⟨k0,h0,hh⟩:=relabel_lookup hk
  have hm:=PySem.mem_of_lookup h0
  have hf:k0=.free:=by
   rcases hh with rfl | ⟨h,_⟩
   ·rcases hk2 with rfl | rfl
    ·exact absurd rfl (S.nocell _ hm)
    ·rfl
   ·exact h
  subst hf
  obtain ⟨c,hc⟩:=I.ok.has x (S.free _ hm rfl)
  exact clOf_has hc hm
 cab:=fun x c hf h=>by
  have hl:scope.names.lookup x=some .local:=by simpa [cxc] using hf
  rcases clOf_mem h with h | ⟨h1,_⟩
  ·simp at h
  ·have:=S.names _ h1
   rw [hl] at this; cases this
 hd:=I.ok.hd
 frames:=I.ok.frames
 stk:=.inl rfl
 exf:=fun b hb=>⟨Nat.ne_of_lt (lt b hb),fun x c h=>by
  rcases clOf_mem h with h | ⟨_,h⟩
  ·simp at h
  ·exact (f b hb).2.2.2.2.1 x c h⟩
 bs:=I.bs
 bsz:=Nat.le_trans I.ok.bsz I.sz
 noex:=fun b o e hb=>by
  rcases (f b hb).2.2.2.1 with h | h
  ·exact I.ok.noex b o e h
  ·have h2:b < X.base.objs.size:=Heap.lt_size e
   exact absurd (Nat.lt_of_lt_of_le h2 (Nat.le_trans I.ok.bsz h)) (Nat.lt_irrefl _)
 exfs:=fun b hb z=>by
  rcases List.mem_cons.mp (I.stkSub b z) with z | z
  ·exact (f b hb).2.1 z
  ·exact (f b hb).2.2.1 z
 funs:=I.stack
 frf:=I.stkFree

noncomputable def clr:List Nat->Ev->Ev
 | [],E=>E
 | i :: r,E=>clr r (E.set i .un)
noncomputable def clrS:List Nat->St->St
 | [],σ=>σ
 | i :: r,σ=>clrS r (σ.set i none)
theorem clrS_len:∀ (ts:List Nat) (σ:St),(clrS ts σ).length=σ.length
 | [],σ=>rfl
 | i :: r,σ=>by unfold clrS; rw [clrS_len r]; simp
theorem clrS_get:∀ (ts:List Nat) (σ:St) (j:Nat),(clrS ts σ)[j]?=if j ∈ ts then (if j < σ.length then some none else none) else σ[j]?
 | [],σ,j=>by simp [clrS]
 | i :: r,σ,j=>by
  unfold clrS
  rw [clrS_get r]
  by_cases h:j ∈ r
  ·simp [h]
  ·by_cases e:j=i
   ·subst e
    simp only [h,if_false,List.mem_cons,true_or,if_true]
    by_cases hl:j < σ.length
    ·rw [set_self hl]; simp [hl]
    ·simp [hl]
   ·simp only [h,if_false,List.mem_cons,e,or_self,if_false]
    exact set_ne e
theorem clr_get:∀ (ts:List Nat) (E:Ev) (j:Nat),(clr ts E)[j]?=if j ∈ ts then (if j < E.length then some .un else none) else E[j]?
 | [],σ,j=>by simp [clr]
 | i :: r,σ,j=>by
  unfold clr
  rw [clr_get r]
  by_cases h:j ∈ r
  ·simp [h]
  ·by_cases e:j=i
   ·subst e
    simp only [h,if_false,List.mem_cons,true_or,if_true]
    by_cases hl:j < σ.length
    ·rw [set_self hl]; simp [hl]
    ·simp [hl]
   ·simp only [h,if_false,List.mem_cons,e,or_self,if_false]
    exact set_ne e
theorem clr_len (ts:List Nat):∀ (E:Ev),(clr ts E).length=E.length:=by
 induction ts with
 | nil=>intro E; rfl
 | cons i r ih=>intro E; unfold clr; rw [ih]; simp
theorem clr_some {ts:List Nat} {E:Ev} {j:Nat} {x:Sl} (hx:x ≠ .un) (h:(clr ts E)[j]?=some x):j ∉ ts/\E[j]?=some x:=by
 rw [clr_get] at h
 by_cases hj:j ∈ ts
 ·rw [if_pos hj] at h
  split at h
  ·cases h; exact absurd rfl hx
  ·cases h
 ·rw [if_neg hj] at h
  exact ⟨hj,h⟩
theorem inv_block (S:CScope X scope) (I:Inv X pins σ H s) {fp:List Addr} (f:∀ b ∈ fp,FpOk X pins H b) (lt:∀ b ∈ fp,b < s.heap.objs.size) {ts:List Nat} (hts:∀ (i:Nat) x,X.N[i]?=some x->scope.names.lookup x=some .local->i ∈ ts)
  {h':Heap} (hns:h'.Ns s.heap.objs.size fun _=>none) (keep:∀ b o,s.heap.get? b=some o->h'.get? b=some o) {tk:Nat}:Inv (cxc X scope s H fp s.heap.objs.size) [] (clrS ts σ) H { s with heap:=h',toks:=tk }:=by
 refine ⟨cxc_ok S I f lt,rfl,I.bare,Un.kept keep,⟨_,hns,fun i x v h1 h2 h3=>?_⟩,fun x c h=>?_,I.hok.fresh (Nat.le_refl _),fun x c h=>?_,fun p hp=>absurd hp (by simp [cxc]),I.hok.kept keep,?_⟩
 ·have h1:X.N[i]?=some x:=h1
  have hi:i ∉ ts/\σ[i]?=some (some v):=by
   rw [clrS_get] at h2
   by_cases hj:i ∈ ts
   ·rw [if_pos hj] at h2
    split at h2<;>cases h2
   ·rw [if_neg hj] at h2
    exact ⟨hj,h2⟩
  have hk:∃ k,(relabel scope X.env).names.lookup x=some k/\(k=.local\/k=.cell\/k=.free):=by
   rcases h3 with h | h | h
   ·exact ⟨_,h,.inl rfl⟩
   ·exact ⟨_,h,.inr (.inl rfl)⟩
   ·exact ⟨_,h,.inr (.inr rfl)⟩
  obtain ⟨k,hk,hk2⟩:=hk
  obtain ⟨k0,h0,hh⟩:=relabel_lookup hk
  have hm:=PySem.mem_of_lookup h0
  have hf:k0=.free:=by
   rcases hh with rfl | ⟨h,_⟩
   ·rcases hk2 with rfl | rfl | rfl
    ·exact absurd (hts i x h1 h0) hi.1
    ·exact absurd rfl (S.nocell _ hm)
    ·rfl
   ·exact h
  subst hf
  have hk3:k=.cell\/k=.free:=by
   rcases hh with rfl | ⟨_,h⟩
   ·exact .inr rfl
   ·exact .inl h
  obtain ⟨m,_,hl⟩:=I.loc
  have kx:=S.free _ hm rfl
  have vis:Vis X.env.scope x:=by
   rcases kx with kx | kx
   ·exact .inr (.inl kx)
   ·exact .inr (.inr kx)
  obtain ⟨u,ru,lk⟩:=hl i x v h1 hi.2 vis
  refine ⟨u,ru,?_⟩
  rcases lk with ⟨q,_⟩ | ⟨_,c,hc,hcell⟩
  ·exfalso
   rcases kx with kx | kx<;>(have z:=q.symm.trans kx; cases z)
  ·obtain ⟨c',hc'⟩:=clOf_has hc (cs:=[]) hm
   have:c'=c:=by
    rcases clOf_mem hc' with z | ⟨_,z⟩
    ·simp at z
    ·exact Option.some.inj (z.symm.trans hc)
   subst this
   refine .inr ⟨?_,c',hc',?_⟩
   ·rcases hk3 with rfl | rfl
    ·exact .inl hk
    ·exact .inr hk
   ·obtain ⟨o,e,rest⟩:=hcell
    exact ⟨o,keep _ _ e,rest⟩
 ·rcases clOf_mem h with z | ⟨_,z⟩
  ·simp at z
  ·obtain ⟨v,o,e,rest⟩:=I.cell x c z
   exact ⟨v,o,keep _ _ e,rest⟩
 ·rcases clOf_mem h with z | ⟨_,z⟩
  ·simp at z
  ·exact I.freeC x c z
 ·rw [clrS_len]; exact I.len
end

noncomputable def compL (set:D->Ev->Option Ev) (mt:Ev->R Bool) (me:EV) (E:Ev):List D->R (List D)
 | []=>.ok []
 | d :: ds=>match set d E with
  | none=>.no
  | some E1=>mt E1 >>= fun k=>if k=true then (me E1 >>= fun y=>compL set mt me E ds >>= fun ys=>.ok (y :: ys)) else compL set mt me E ds
noncomputable def noOw (ts:List Nat) (E:Ev):Bool:=ts.all fun i=>match E[i]? with
 | some (.ow _)=>false
 | _=>true
noncomputable def eComp (ts:List Nat) (set:D->Ev->Option Ev) (mi:Ev->R (List D)) (mt:Ev->R Bool) (me:EV):EV:=fun E =>
 if noOw ts E=true then (mi E >>= fun ds=>if ds.length<=1000000 then (compL set mt me (clr ts E) ds >>= fun ys=>.ok (.lst ys)) else .no) else .no
noncomputable def SC (X:Cx) (G:Fc) (ifs:List Expr) (mt:Ev->R Bool):Prop :=
 ∀ (pins:List (Addr × Obj)) (s:Shared) (σ:St) (H:Hp) (Q:Bool->Hp->Prop),Inv X pins σ H s->(∃ E,Rel X.K G E σ H/\Fin (mt E) (fun b=>∀ H',Same H H'->Q b H') G.xc) →
  wpAny (model X.prog X.w) X.A (forIn ifs true fun c r=>if r=true then do let ok ← isTrue c X.env (eval c X.env); pure (ForInStep.yield ok) else pure (ForInStep.yield r)) (TP X pins σ Q) X.xe s
noncomputable def tTrue:Ev->R Bool:=fun _=>.ok true
section
variable {X:Cx} {G:Fc}
theorem sc_nil:SC X G [] tTrue:=fun pins s σ H Q I ⟨E,hr,f⟩=>wpAny_pure ⟨H,I,f H (Same.refl _)⟩
theorem sc_one {c:Expr} {mt:Ev->R Bool} (h:ST X G c mt):SC X G [c] mt:=by
 rintro pins s σ H Q I ⟨E,hr,f⟩
 rw [List.forIn_cons]
 simp only [if_true]
 refine wpAny_bind (wpAny_bind (thn (h pins s σ H Q I ⟨E,hr,f⟩) fun b s1 q=>wpAny_pure ?_))
 exact wpAny_pure q
end
theorem Un.post {fs ex:List Addr} {H H1:Hp} {h h1 h2:Heap} {C:Addr} (u:Un fs ex H H1 h h1) (k:∀ b o,b ≠ C->h1.get? b=some o->h2.get? b=some o) (n:∀ b o,h.get? b=some o->b ≠ C):Un fs ex H H1 h h2 where
 keep:=fun b o q m hb he=>k b o (n b o q) (u.keep b o q m hb he)
 slot:=fun b o q m hb he=>by obtain ⟨sl,e⟩:=u.slot b o q m hb he; exact ⟨sl,k b _ (n b o q) e⟩
 free:=u.free
 there:=fun b o q he=>by obtain ⟨o',e⟩:=u.there b o q he; exact ⟨o',k b _ (n b o q) e⟩
 tups:=u.tups
 frzs:=u.frzs
 tbls:=u.tbls
theorem HOk.post {P:Program} {w:World} {H:Hp} {h h':Heap} {C:Addr} (x:HOk P w H h) (n:H C=none) (k:∀ b o,b ≠ C->h.get? b=some o->h'.get? b=some o):HOk P w H h':=fun a o e =>
 (x a o e).stay (fun b u hb q=>k b u (by
  rcases hb with rfl | hb
  ·exact fun z=>by subst z; rw [n] at e; cases e
  ·exact fun z=>by subst z; rw [n] at hb; cases hb) q) (fun _ q=>q) fun _ _ q=>q
section
variable {K:PySem.W.Frag} {G:Fc} {E:Ev} {σ:St} {H H':Hp}
noncomputable def Fc.in (G:Fc) (E:Ev) (σ:St) (H:Hp) (L:Addr) (vs:List V):Fc:=⟨fun b=>if b=L then some (.lst vs) else (G.lock E σ H).h0 b,fun a=>G.pr a\/a=L,G.xc⟩
theorem in_le {L:Addr} {vs:List V} (n:H L=none):(G.lock E σ H).Le (G.in E σ H L vs) where
 h0:=fun b o h=>by
  have hb:b ≠ L:=fun z=>by
   subst z
   unfold Fc.lock at h
   dsimp only at h
   split at h
   ·cases h
   ·rw [n] at h; cases h
  unfold Fc.in
  simp only [hb,if_false]
  exact h
 pr:=fun b o h z=>by
  rcases z with z | z
  ·exact z
  ·subst z
   unfold Fc.lock at h
   dsimp only at h
   split at h
   ·cases h
   ·rw [n] at h; cases h
 sub:=fun a h=>.inl h
theorem ow_clr {pr:Addr->Prop} {ts:List Nat} {σ':St} {a:Addr} (hσ:∀ j,j ∉ ts->σ'[j]?=σ[j]?) (h:Ow pr (clr ts E) σ' a):Ow pr E σ a:=by
 rcases h with h | ⟨i,d,h1,h2⟩
 ·exact .inl h
 ·obtain ⟨hi,h1⟩:=clr_some (by intro z; cases z) h1
  rw [hσ i hi] at h2
  exact .inr ⟨i,d,h1,h2⟩
theorem ow_clr' {pr:Addr->Prop} {ts:List Nat} {σ':St} {a:Addr} (no:noOw ts E=true) (hσ:∀ j,j ∉ ts->σ'[j]?=σ[j]?) (h:Ow pr E σ a):Ow pr (clr ts E) σ' a:=by
 rcases h with h | ⟨i,d,h1,h2⟩
 ·exact .inl h
 ·have hi:i ∉ ts:=fun hi=>by
   have:=List.all_eq_true.mp no i hi
   rw [h1] at this
   cases this
  exact .inr ⟨i,d,by rw [clr_get,if_neg hi]; exact h1,by rw [hσ i hi]; exact h2⟩
theorem Rel.block {ts:List Nat} {L:Addr} (r:Rel K G E σ H) (n:H L=none):Rel K (G.in E σ H L []) (clr ts E) (clrS ts σ) (upd H L (.lst [])):=by
 have hσ:∀ j,j ∉ ts->(clrS ts σ)[j]?=σ[j]?:=fun j hj=>by rw [clrS_get,if_neg hj]
 have sub:∀ b,Ow (G.in E σ H L []).pr (clr ts E) (clrS ts σ) b->Ow G.pr E σ b\/b=L:=fun b h=>by
  rcases h with (h | h) | h
  ·exact .inl (.inl h)
  ·exact .inr h
  ·exact .inl (ow_clr hσ (.inr h))
 refine ⟨by rw [clr_len,clrS_len]; exact r.len,fun i d h=>?_,fun i d h=>?_,fun i j d e a h1 h2 h3 h4=>?_,fun b o h=>?_,fun a h=>?_⟩
 ·obtain ⟨hi,h⟩:=clr_some (by intro z; cases z) h
  obtain ⟨v,e,p⟩:=r.fz i d h
  exact ⟨v,by rw [hσ i hi]; exact e,(p.fresh n).mono (same_upd n) sub⟩
 ·obtain ⟨hi,h⟩:=clr_some (by intro z; cases z) h
  obtain ⟨a,e1,e2,e3⟩:=r.ow i d h
  have ha:a ≠ L:=fun z=>by subst z; obtain ⟨o,q,_⟩:=e2.there; rw [n] at q; cases q
  refine ⟨a,by rw [hσ i hi]; exact e1,?_,?_⟩
  ·have h4:Own K H (fun b=>Ow G.pr E σ b\/b=L) d a:=by
    cases d with
    | lst ds=>obtain ⟨vs,e,q⟩:=e2; exact ⟨vs,e,q.fresh n⟩
    | dic ds=>obtain ⟨vs,e,q⟩:=e2; exact ⟨vs,e,q.fresh n⟩
    | _=>exact e2
   exact h4.mono (same_upd n) sub
  ·have:SlotOwn E σ a:=⟨i,d,h,e1⟩
   unfold Fc.in Fc.lock
   simp [ha,this]
 ·obtain ⟨hi,h1⟩:=clr_some (by intro z; cases z) h1
  obtain ⟨hj,h2⟩:=clr_some (by intro z; cases z) h2
  rw [hσ i hi] at h3
  rw [hσ j hj] at h4
  exact r.ne i j d e a h1 h2 h3 h4
 ·unfold Fc.in at h
  dsimp only at h
  split at h
  ·rename_i e; subst e; rw [upd_same]; exact h
  ·rename_i e; rw [upd_ne e]; exact r.lock.base _ _ h
 ·rcases h with h | h
  ·obtain ⟨o,q,nt⟩:=r.lock.prt a h
   refine ⟨o,?_,nt⟩
   exact (in_le n).h0 _ _ q
  ·subst h
   exact ⟨.lst [],by unfold Fc.in; simp,True.intro⟩
theorem Rel.bump {E0:Ev} {σ0:St} {H0:Hp} {L:Addr} {vs ws:List V} (r:Rel K (G.in E0 σ0 H0 L vs) E σ H):Rel K (G.in E0 σ0 H0 L ws) E σ (upd H L (.lst ws)):=by
 have hL:Ow (G.in E0 σ0 H0 L vs).pr E σ L:=.inl (.inr rfl)
 refine ⟨r.len,fun i d h=>?_,fun i d h=>?_,r.ne,fun b o h=>?_,fun a h=>?_⟩
 ·obtain ⟨v,e,p⟩:=r.fz i d h
  exact ⟨v,e,p.write hL⟩
 ·obtain ⟨a,e1,e2,e3⟩:=r.ow i d h
  have ha:a ≠ L:=fun z=>by subst z; unfold Fc.in at e3; simp at e3
  refine ⟨a,e1,?_,?_⟩
  ·cases d with
   | lst ds=>obtain ⟨vs,e,q⟩:=e2; exact ⟨vs,by rw [upd_ne ha]; exact e,q.write hL⟩
   | dic ds=>obtain ⟨vs,e,q⟩:=e2; exact ⟨vs,by rw [upd_ne ha]; exact e,q.write hL⟩
   | _=>exact e2
  ·unfold Fc.in at e3 ⊢
   simp only [ha,if_false] at e3 ⊢
   exact e3
 ·by_cases e:b=L
  ·subst e
   unfold Fc.in at h
   simp at h
   rw [upd_same,h]
  ·rw [upd_ne e]
   refine r.base _ _ ?_
   unfold Fc.in at h ⊢
   simp only [e,if_false] at h ⊢
   exact h
 ·obtain ⟨o,q,nt⟩:=r.prt a h
  by_cases e:a=L
  ·subst e; exact ⟨.lst ws,by unfold Fc.in; simp,True.intro⟩
  ·refine ⟨o,?_,nt⟩
   unfold Fc.in at q ⊢
   simp only [e,if_false] at q ⊢
   exact q
theorem Rel.un {i:Nat} (r:Rel K G E σ H):Rel K G (E.set i .un) σ H:=by
 have sub:∀ b,Ow G.pr (E.set i .un) σ b->Ow G.pr E σ b:=fun b h=>by
  rcases h with h | ⟨j,d,h1,h2⟩
  ·exact .inl h
  ·rcases get_set h1 with ⟨_,z⟩ | ⟨_,h1⟩
   ·cases z
   ·exact .inr ⟨j,d,h1,h2⟩
 refine ⟨by simp [r.len],fun j d h=>?_,fun j d h=>?_,fun j k d e a h1 h2 h3 h4=>?_,r.base,r.prt⟩
 ·rcases get_set h with ⟨_,z⟩ | ⟨_,h⟩
  ·cases z
  ·obtain ⟨v,e,p⟩:=r.fz j d h; exact ⟨v,e,p.mono (Same.refl _) sub⟩
 ·rcases get_set h with ⟨_,z⟩ | ⟨_,h⟩
  ·cases z
  ·obtain ⟨a,e1,e2,e3⟩:=r.ow j d h; exact ⟨a,e1,e2.mono (Same.refl _) sub,e3⟩
 ·rcases get_set h1 with ⟨_,z⟩ | ⟨_,h1⟩
  ·cases z
  rcases get_set h2 with ⟨_,z⟩ | ⟨_,h2⟩
  ·cases z
  exact r.ne j k d e a h1 h2 h3 h4
theorem Rel.clr:∀ {ts:List Nat} {E:Ev},Rel K G E σ H->Rel K G (clr ts E) σ H
 | [],E,r=>r
 | i :: ts,E,r=>by unfold M.clr; exact Rel.clr r.un
end

section
variable {X:Cx} {G:Fc} {elt iter tg:Expr} {ifs:List Expr} {scope:Scope} {pos:Pos} {ts:List Nat} {set:D->Ev->Option Ev} {mi:Ev->R (List D)} {mt:Ev->R Bool} {me:EV}
structure CompOk (X:Cx) (xc:Nat->Prop) (elt tg:Expr) (ifs:List Expr) (scope:Scope) (ts:List Nat) (set:D->Ev->Option Ev) (mt:Ev->R Bool) (me:EV):Prop where
 S:CScope X scope
 loc:∀ (i:Nat) x,X.N[i]?=some x->scope.names.lookup x=some .local->i ∈ ts
 hset:∀ d E E',set d E=some E'->clr ts E'=clr ts E
 hg:∀ s3 H3 fp C,SG (cxc X scope s3 H3 fp C) tg ts set
 hc:∀ s3 H3 fp C G',G'.xc=xc->SC (cxc X scope s3 H3 fp C) G' ifs mt
 he:∀ s3 H3 fp C G',G'.xc=xc->SF (cxc X scope s3 H3 fp C) G' elt me
structure CompI (X:Cx) (G:Fc) (scope:Scope) (ts:List Nat) (set:D->Ev->Option Ev) (mt:Ev->R Bool) (me:EV) (E:Ev) (σ:St) (H2 H3:Hp) (s3:Shared) (L C:Addr) (fp:List Addr) (tn:Nat->Heap->Prop) (ds all:List D)
  (n:Nat) (s':Shared) (i:Nat) (σi:St) (Hi:Hp) (vs:List V) (ys rest:List D):Prop where
 hn:n=ds.length - i
 hi:i<=ds.length
 Ii:Inv (cxc X scope s3 H3 fp C) [] σi Hi s'
 sti:tn i s'.heap
 fri:∀ b ∈ fp,Hi b=none
 hL:Hi L=some (.lst vs)
 rps:Rps X.K Hi (Ow (G.in E σ H2 L vs).pr (clr ts E) σi) ys vs
 ri:Rel X.K (G.in E σ H2 L vs) (clr ts E) σi Hi
 hσ:∀ j,j ∉ ts->σi[j]?=σ[j]?
 sm:Same H2 Hi
 hle:ys.length<=i
 hc:compL set mt me (clr ts E) (ds.drop i)=.ok rest
 hall:all=ys++rest
theorem comp_loop {σ:St} {H2:Hp} {E:Ev} {ds all:List D} {it L C:Addr} {fp:List Addr} {tn:Nat->Heap->Prop} {J:It} {RR:Result->Shared->Prop} {s3:Shared} {H3:Hp} (calm:X.calm=true) (hx:∀ c,¬ G.xc c) (O:CompOk X G.xc elt tg ifs scope ts set mt me)
  (T:Turn X.prog X.w X.K tg J fp it tn) (itB:∀ (vs:List V) (E':Ev) (σ':St) (H':Hp),Rel X.K (G.in E σ H2 L vs) E' σ' H'->J.stop ds.length H'/\∀ (i:Nat) (d:D),ds[i]?=some d->J.go i H'/\∀ x H'',J.yld i H' x H''->Same H' H''/\Rp X.K H'' (Ow (G.in E σ H2 L vs).pr E' σ') d x)
  (hlen:ds.length<=1000000) (nL:H2 L=none)
  (fin:∀ (σe:St) (He:Hp) (vs:List V) (s1:Shared),Inv (cxc X scope s3 H3 fp C) [] σe He s1->He L=some (.lst vs)->Rps X.K He (Ow (G.in E σ H2 L vs).pr (clr ts E) σe) all vs->(∀ j,j ∉ ts->σe[j]?=σ[j]?)->Same H2 He->RR (.ok .next) s1)
  (s₀:Shared) (n:Nat) (i:Nat) (σi:St) (Hi:Hp) (vs:List V) (ys rest:List D) (hn:n=ds.length - i) (hi:i<=ds.length) (Ii:Inv (cxc X scope s3 H3 fp C) [] σi Hi s₀) (sti:tn i s₀.heap) (fri:∀ b ∈ fp,Hi b=none) (hL:Hi L=some (.lst vs))
  (rps:Rps X.K Hi (Ow (G.in E σ H2 L vs).pr (clr ts E) σi) ys vs) (ri:Rel X.K (G.in E σ H2 L vs) (clr ts E) σi Hi) (hσ:∀ j,j ∉ ts->σi[j]?=σ[j]?) (sm:Same H2 Hi) (hle:ys.length<=i) (hc:compL set mt me (clr ts E) (ds.drop i)=.ok rest) (hall:all=ys++rest) :
  codeAny (model X.prog X.w) X.A (.compLoop (.ListComp elt [⟨tg,iter,ifs,0⟩] scope pos) 0 (.ref it) (.ref L) (cxc X scope s3 H3 fp C).env) RR s₀:=by
 refine compLoop_go (fun n s'=>∃ (i:Nat) (σi:St) (Hi:Hp) (vs:List V) (ys rest:List D),CompI X G scope ts set mt me E σ H2 H3 s3 L C fp tn ds all n s' i σi Hi vs ys rest) ?_ n ⟨i,σi,Hi,vs,ys,rest,hn,hi,Ii,sti,fri,hL,rps,ri,hσ,sm,hle,hc,hall⟩
 clear hn hi Ii sti fri hL rps ri hσ sm hle hc hall
 rintro n s' ⟨i,σi,Hi,vs,ys,rest,rfl,hi,Ii,sti,fri,hL,rps,ri,hσ,sm,hle,hc,hall⟩
 obtain ⟨stop,go⟩:=itB vs (clr ts E) σi Hi ri
 have okX:=Ii.ok
 have fpX:∀ {H':Hp},(∀ b ∈ fp,H' b=none)->∀ b ∈ fp,FpOk (cxc X scope s3 H3 fp C) [] H' b:=fun hn b hb =>
  ⟨hn b hb,(okX.exf b hb).1,okX.exfs b hb,.inl hb,fun x c h=>(okX.exf b hb).2 x c h,fun p hp=>absurd hp (by simp [cxc])⟩
 by_cases hlt:i < ds.length
 ·obtain ⟨go1,yl⟩:=go i ds[i] (by simp [hlt])
  rw [List.drop_eq_getElem_cons hlt] at hc
  unfold compL at hc
  refine wpAny_mono (T.item (cxc X scope s3 H3 fp C) rfl rfl rfl calm i [] s' σi Hi (fun _ _=>False) Ii (fpX fri) sti go1) (?_) fun _ _ z=>z
  rintro r s1 ⟨u,hr,h1⟩
  subst hr
  refine wpAny_mono h1 (?_) fun _ _ z=>z
  rintro _ s2 ⟨x,Hy,Iy,rx,y1,sty,fry⟩
  obtain ⟨sy,px⟩:=yl x Hy y1
  cases hse:set ds[i] (clr ts E) with
  | none=>rw [hse] at hc; cases hc
  | some E1 =>
  rw [hse] at hc
  dsimp only at hc
  have Iy':=Iy.pinned (fpX fry) (T.obj _ _ sty)
  obtain ⟨g,hg,hset⟩:=O.hg s3 H3 fp C
  have ry:=ri.same sy
  -- the target
  refine wpAny_mono (hg _ s2 σi Hy x u _ Iy' rx (hset (G.in E σ H2 L vs) (clr ts E) E1 σi Hy ds[i] x (fun σ' H'=>H'=Hy/\(∀ j,j ∉ ts->σ'[j]?=σi[j]?)/\Rel X.K (G.in E σ H2 L vs) E1 σ' Hy) ry px hse fun σ' h1 h2=>⟨rfl,h1,h2⟩)) (?_) fun _ _ z=>z
  rintro _ s4 ⟨σ4,H4,I4,e4,hσ4,r4⟩
  have e4':=e4.symm
  subst e4'
  have hσ4':∀ j,j ∉ ts->σ4[j]?=σ[j]?:=fun j hj=>(hσ4 j hj).trans (hσ j hj)
  have eclr:clr ts E1=clr ts E:=by
   have:=O.hset _ _ _ hse
   rw [this]
   apply List.ext_getElem?
   intro j
   rw [clr_get,clr_get,clr_len]
   by_cases hj:j ∈ ts
   ·simp [hj]
   ·simp [hj]
  -- the iterator behind a state of the block
  have again:∀ {s9:Shared} {σ9:St} {H9:Hp},Inv (cxc X scope s3 H3 fp C) ([]++pinsAt fp s2.heap) σ9 H9 s9->Inv (cxc X scope s3 H3 fp C) [] σ9 H9 s9/\tn (i + 1) s9.heap/\∀ b ∈ fp,H9 b=none:=fun {s9 σ9 H9} I9=>by
   refine ⟨I9.unpinned,T.keep _ _ _ sty fun b hb o e=>(I9.pin (b,o) (List.mem_append_right _ (List.mem_append_right _ (mem_pinsAt hb e)))).1,fun b hb=>?_⟩
   obtain ⟨o,e,d⟩:=T.obj _ _ sty b hb
   exact (I9.pin (b,o) (List.mem_append_right _ (List.mem_append_right _ (mem_pinsAt hb e)))).2.1
  have smy:Same H2 Hy:=sm.trans sy
  have hLy:Hy L=some (.lst vs):=sy _ _ hL
  -- the tests
  cases hmt:mt E1 with
  | er c=>rw [hmt] at hc; cases hc
  | no=>rw [hmt] at hc; cases hc
  | ok k =>
  rw [hmt] at hc
  simp only [R.ok_bind] at hc
  refine wpAny_mono (O.hc s3 H3 fp C (G.in E σ H2 L vs) rfl _ s4 σ4 Hy (fun b H'=>b=k/\Same Hy H') I4 ⟨E1,r4,by rw [hmt]; exact fun H' s=>⟨rfl,s⟩⟩) (fun ok s5 ⟨H5,I5,e5,s5'⟩=>?_) fun _ _ z=>z
  subst e5
  have r5:=r4.same s5'
  cases ok with
  | false =>
   rw [if_neg Bool.false_ne_true] at hc ⊢
   obtain ⟨J5,t5,n5⟩:=again I5
   refine ⟨ds.length - (i + 1),by omega,i + 1,σ4,H5,vs,ys,rest,rfl,hlt,J5,t5,n5,s5' _ _ hLy,?_,?_,hσ4',smy.trans s5',by omega,hc,hall⟩
   ·refine rps.mono (sy.trans s5') fun b z=>?_
    rcases z with z | ⟨j,d,z1,z2⟩
    ·exact .inl z
    ·obtain ⟨hj,z3⟩:=clr_some (by intro q; cases q) z1
     exact .inr ⟨j,d,z1,by rw [<-hσ4 j hj]; exact z2⟩
   ·rw [<-eclr]; exact r5.clr
  | true =>
   rw [if_pos rfl] at hc ⊢
   cases hme:me E1 with
   | er c=>rw [hme] at hc; cases hc
   | no=>rw [hme] at hc; cases hc
   | ok y =>
   rw [hme] at hc
   simp only [R.ok_bind] at hc
   cases hrest:compL set mt me (clr ts E) (ds.drop (i + 1)) with
   | er c=>rw [hrest] at hc; cases hc
   | no=>rw [hrest] at hc; cases hc
   | ok zs =>
   rw [hrest] at hc
   simp only [R.ok_bind] at hc
   cases hc
   refine wpAny_mono (O.he s3 H3 fp C (G.in E σ H2 L vs) rfl _ s5 σ4 H5 (fun v H'=>Same H5 H'/\Rp X.K H' (Ow (G.in E σ H2 L vs).pr E1 σ4) y v) I5 ⟨E1,r5,by rw [hme]; exact fun v H' s p=>⟨s,p⟩⟩) (fun z s6 ⟨v6,H6,I6,rv6,s6',p6⟩=>?_) fun _ _ z=>z
   have r6:=r5.same s6'
   have hL6:H6 L=some (.lst vs):=s6' _ _ (s5' _ _ hLy)
   have lv:vs.length < sizeLine:=by rw [rps.length,sizeLine_eq]; omega
   refine wpAny_mono (mt_append (X:=cxc X scope s3 H3 fp C) _ s6 σ4 H6 (.ref L) [v6] (.ref L) [z] (fun _ H'=>H'=upd H6 L (.lst (vs++[v6]))) I6 rfl (.cons rv6 .nil) ⟨L,vs,v6,rfl,rfl,hL6,lv,rfl⟩) (?_) fun _ _ z=>z
   rintro _ s7 ⟨_,H7,I7,_,e7⟩
   subst e7
   obtain ⟨J7,t7,n7⟩:=again I7
   have hLo:Ow (G.in E σ H2 L vs).pr E1 σ4 L:=.inl (.inr rfl)
   have owsub:∀ b,Ow (G.in E σ H2 L (vs++[v6])).pr (clr ts E) σ4 b->Ow (G.in E σ H2 L vs).pr E1 σ4 b:=fun b z=>by
    rw [<-eclr] at z
    rcases z with z | ⟨j,d,z1,z2⟩
    ·exact .inl z
    ·exact .inr ⟨j,d,(clr_some (by intro q; cases q) z1).2,z2⟩
   refine ⟨ds.length - (i + 1),by omega,i + 1,σ4,_,vs++[v6],ys++[y],zs,rfl,hlt,J7,t7,n7,upd_same,?_,?_,hσ4',?_,by simp; omega,hrest,by simp [hall]⟩
   ·refine Rps.append ?_ (Rps.cons ((p6.write hLo).mono (Same.refl _) owsub) Rps.nil)
    have q1:Rps X.K H6 (Ow (G.in E σ H2 L vs).pr (clr ts E) σ4) ys vs:=rps.mono (sy.trans (s5'.trans s6')) fun b z=>by
     rcases z with z | ⟨j,d,z1,z2⟩
     ·exact .inl z
     ·obtain ⟨hj,z3⟩:=clr_some (by intro q; cases q) z1
      exact .inr ⟨j,d,z1,by rw [<-hσ4 j hj]; exact z2⟩
    exact q1.write (.inl (.inr rfl))
   ·have:=r6.clr (ts:=ts)
    rw [eclr] at this
    exact this.bump
   ·intro b o hb
    have hb':b ≠ L:=fun q=>by subst q; rw [nL] at hb; cases hb
    rw [upd_ne hb']
    exact s6' _ _ (s5' _ _ (smy _ _ hb))
 ·have e:i=ds.length:=by omega
  subst e
  rw [List.drop_length] at hc
  unfold compL at hc
  cases hc
  rw [List.append_nil] at hall
  subst hall
  refine wpAny_mono (T.done (cxc X scope s3 H3 fp C) rfl rfl rfl calm ds.length [] s' σi Hi (fun _ _=>False) Ii (fpX fri) sti stop) (?_) fun _ _ z=>z
  rintro r s1 ⟨hr,I1⟩
  subst hr
  exact fin σi Hi vs s1 I1 hL rps hσ sm
theorem comp_run {pins:List (Addr × Obj)} {σ:St} {H2:Hp} {s2:Shared} {E:Ev} {ds all:List D} {it:Addr} {fp:List Addr} {tn:Nat->Heap->Prop} {J:It} {Rr:Value->Addr->Result->Shared->Prop} (calm:X.calm=true) (hx:∀ c,¬ G.xc c) (O:CompOk X G.xc elt tg ifs scope ts set mt me)
  (I:Inv X pins σ H2 s2) (T:Turn X.prog X.w X.K tg J fp it tn) (st:tn 0 s2.heap) (f:∀ b ∈ fp,FpOk X pins H2 b) (r:Rel X.K G E σ H2) (itok:ItOk X.K (G.lock E σ H2) J ds) (hlen:ds.length<=1000000) (no:noOw ts E=true) (hall:compL set mt me (clr ts E) ds=.ok all)
  (fin:∀ (L C:Addr) (He:Hp) (s':Shared) (m:Str->Option Value),H2 L=none->C ≠ X.env.locals->s'.heap.Ns C m->He C=none->(∀ x c,X.env.cells.lookup x=some c->c ≠ C)->C ∉ X.fs->X.s₀.heap.objs.size<=C->(∀ p ∈ X.pn++pins,p.1 ≠ C)->(∀ h',(∀ b o,b ≠ C->s'.heap.get? b=some o->h'.get? b=some o)->Inv X pins σ He { s' with heap:=h' })->Same H2 He->Own X.K He (fun b=>Ow G.pr E σ b\/b=L) (.lst all) L->Rr (.ref L) C (.ok .next) s') :
  wpAny (model X.prog X.w) X.A (newList []) (fun acc s₃=>wpAny (model X.prog X.w) X.A (newFunctionEnv scope X.env.globals (clOf scope.names X.env []) [] X.env.qual none .none (some X.env)) (fun cenv s₄ =>
   codeAny (model X.prog X.w) X.A (.compStart (.ListComp elt [⟨tg,iter,ifs,0⟩] scope pos) 0 (.ref it) acc { cenv with scope:=relabel scope X.env }) (Rr acc cenv.locals) s₄) X.xe s₃) X.xe s2:=by
 refine wpAny_newObj_type (wpAny_newFunctionEnv O.S.nocell (by intro y hy; simp at hy) (fun h₁ hns₁ hsb₁=>?_) O.S.kind)
 dsimp only at hns₁ hsb₁ ⊢
 generalize hp3:s2.heap.push { cls:=.type "list",data:=.seq #[] }=h3 at hns₁ hsb₁ ⊢
 have hC:h3.objs.size=s2.heap.objs.size + 1:=by rw [<-hp3,Heap.size_push]
 have k23:∀ b o,s2.heap.get? b=some o->h3.get? b=some o:=fun b o e=>by rw [<-hp3]; exact Heap.get?_push_of_some _ e
 have nL:H2 s2.heap.objs.size=none:=I.hok.fresh (Nat.le_refl _)
 have I3:Inv X pins σ (upd H2 s2.heap.objs.size (.lst [])) { s2 with heap:=h3,toks:=s2.toks }:=by
  rw [<-hp3]
  exact I.laid (a:=s2.heap.objs.size) (o:=.lst []) (t':=s2.toks) (fun _ _ q=>Heap.get?_push_of_some _ q) (Nat.le_refl _) ⟨Nat.zero_le _,[],0,.nil,Heap.get?_push_size _ rfl⟩
 have lt2:∀ b ∈ fp,b < s2.heap.objs.size:=fun b hb=>by obtain ⟨o,e,_⟩:=T.obj 0 _ st b hb; exact Heap.lt_size e
 have lt3:∀ b ∈ fp,b < h3.objs.size:=fun b hb=>by rw [hC]; exact Nat.lt_succ_of_lt (lt2 b hb)
 have f3:∀ b ∈ fp,FpOk X pins (upd H2 s2.heap.objs.size (.lst [])) b:=fun b hb=>⟨by rw [upd_ne (Nat.ne_of_lt (lt2 b hb))]; exact (f b hb).1,(f b hb).2⟩
 have k34:∀ b o,h3.get? b=some o->h₁.get? b=some o:=fun b o e=>hsb₁.extBut b o (Nat.ne_of_lt (Heap.lt_size e)) (Heap.get?_push_of_some _ e)
 have IB:=inv_block O.S I3 f3 (fun b hb=>lt3 b hb) O.loc (h':=h₁) (by simpa using hns₁) k34 (tk:=s2.toks + ([]:List (Str × Value)).length)
 have st4:tn 0 h₁:=T.keep _ _ _ st fun b hb o e=>k34 b o (k23 b o e)
 have rB:=r.block (ts:=ts) nL
 have itB:∀ (vs:List V) (E':Ev) (σ':St) (H':Hp),Rel X.K (G.in E σ H2 s2.heap.objs.size vs) E' σ' H'->_:=fun vs E' σ' H' r'=>itok _ E' σ' H' (in_le nL) r'
 have loop:=comp_loop (X:=X) (pos:=pos) (iter:=iter) (RR:=Rr (.ref s2.heap.objs.size) h3.objs.size) (s3:={ s2 with heap:=h3,toks:=s2.toks }) (H3:=upd H2 s2.heap.objs.size (.lst [])) (C:=h3.objs.size) calm hx O T itB hlen nL (fun σe He vs s1 Ie hL rps hσ sm=>by
   obtain ⟨m,hns,_⟩:=Ie.loc
   have hns:s1.heap.Ns h3.objs.size m:=hns
   have hCn:He h3.objs.size=none:=Ie.free
   refine fin s2.heap.objs.size h3.objs.size He s1 m nL (Nat.ne_of_gt I3.lt) hns hCn (fun x c e z=>?_) (I3.nofs (Nat.le_refl _)) I3.sz (fun p hp z=>?_) (fun h' k=>?_) sm ⟨vs,hL,rps.mono (Same.refl _) fun b z=>?_⟩
   ·obtain ⟨v,q⟩:=I3.cell x c e
    have:=q.lt
    rw [z] at this
    exact absurd this (Nat.lt_irrefl _)
   ·have:=Heap.lt_size (I3.pin p hp).1
    rw [z] at this
    exact absurd this (Nat.lt_irrefl _)
   ·have u:Un (frs X.stack) fp (upd H2 s2.heap.objs.size (.lst [])) He h3 h':=Un.post (C:=h3.objs.size) Ie.base k fun b o e=>Nat.ne_of_lt (Heap.lt_size e)
    refine I3.call' (s':={ s1 with heap:=h' }) Ie.os u (HOk.post Ie.hok hCn k) Ie.bare fun b hb=>?_
    obtain ⟨_,q1,q2,q3,q4,q5⟩:=f3 b hb
    exact ⟨q3,q1,q4,q5⟩
   ·rcases z with z | z
    ·rcases ow_clr' (pr:=G.pr) no hσ z with z | z
     ·exact .inl (.inl z)
     ·exact .inr z
    ·exact .inl (.inr z))
  { s2 with heap:=h₁,toks:=s2.toks + ([]:List (Str × Value)).length } ds.length 0 (clrS ts σ) _ [] [] all (by simp) (Nat.zero_le _) IB st4 (fun b hb=>(f3 b hb).1) upd_same Rps.nil rB (fun j hj=>by rw [clrS_get,if_neg hj]) (same_upd nL) (Nat.le_refl _) (by simpa using hall) rfl
 exact codeAny_compStart_list loop (T.self _ 0 _ _ _ st4 loop)
theorem sn_comp (gd:Gd X) (hx:∀ c,¬ G.xc c) (hi:SI X G tg iter mi) (O:CompOk X G.xc elt tg ifs scope ts set mt me) (hs:∀ x,foldedSetIterable iter X.env x=pure x:=by intro _; rfl):SN X G (.ListComp elt [⟨tg,iter,ifs,0⟩] scope pos) (eComp ts set mi mt me):=by
 rintro pins s σ H Q I ⟨E,hr,f⟩
 unfold eComp at f
 split at f
 ·rename_i no
  rw [eval_ListComp]
  have hclos:closureFor scope X.env=pure (clOf scope.names X.env []):=closure_eq fun p hp hf=>I.ok.has p.1 (O.S.free p hp hf)
  refine wpAny_comprehension_free (use:=none) rfl hs hclos O.S.kind (fun y hy hl=>by rw [<-hl]; exact O.S.names y hy) ?_
  refine thn (hi pins s σ H (fun J H1=>∃ ds all,Same H H1/\ItOk X.K (G.lock E σ H1) J ds/\ds.length<=1000000/\compL set mt me (clr ts E) ds=.ok all/\∀ a H',Same H H'->H a=none->Own X.K H' (fun b=>Ow G.pr E σ b\/b=a) (.lst all) a->Q (.ref a) H') I ⟨E,hr,(Fin.bind f).mono fun ds p J H1 s1 it=>?_⟩) fun v s1 h1=>thn h1 fun itv s2 zz=>?_
  ·split at p
   ·rename_i hl
    cases hc:compL set mt me (clr ts E) ds with
    | no=>rw [hc] at p; exact p.elim
    | er c=>rw [hc] at p; exact absurd p (hx c)
    | ok all=>rw [hc] at p; exact ⟨ds,all,s1,it,hl,hc,p⟩
   ·exact p.elim
  ·obtain ⟨it,fp,tn,J,H2,e,I2,T,st,fo,ds,all,s12,ito,hl,hc,q⟩:=zz
   subst e
   refine comp_run (Rr:=fun acc C=>compPost (model X.prog X.w) X.A X.xe none (EP X pins σ Q) acc C) gd.calm hx O I2 T st fo (hr.same s12) ito hl no hc fun L C He s' m nL _ ns nC _ _ _ _ inv sm own=>?_
   refine ⟨m,ns,fun h' sb=>⟨.ref L,He,inv h' fun b o hb e=>sb.extBut b o hb e,rfl,q L He (s12.trans sm) ?_ own⟩⟩
   cases z:H L with
   | none=>rfl
   | some o=>rw [s12 _ _ z] at nL; cases nL
 ·exact f.elim
end
end M

set_option Elab.async false
set_option linter.all false
set_option maxRecDepth 100000
namespace M
open PySem PySem.Spec PyProof.Rows L2

theorem turnLaid {X:Cx} {pins:List (Addr × Obj)} {σ:St} {H:Hp} {s:Shared} {h':Heap} {t':Nat} {ch:List Addr} {T:Addr} {o:HO} (I:Inv X pins σ H s) (hch:∀ b ∈ ch,FpOk X pins H b)
  (k:∀ b o,b ∉ ch->s.heap.get? b=some o->h'.get? b=some o) (hT:s.heap.objs.size<=T) (new:ObjOk X.prog X.w (upd H T o) h' T o):Inv X pins σ (upd H T o) { s with heap:=h',toks:=t' }:=by
 have hnT:H T=none:=I.hok.fresh hT
 have nT:∀ b ob,s.heap.get? b=some ob->b ≠ T:=fun b ob e=>Nat.ne_of_lt (Nat.lt_of_lt_of_le (Heap.lt_size e) hT)
 have nit:∀ b u,H b=some u->b ∉ ch:=fun b u e z=>by rw [(hch b z).1] at e; cases e
 refine I.step (g':=s.gens) (d':=s.drawn) (ch:=ch) (fun b hb=>?_) (fun b o _ _ hc e _=>k b o hc e) (fun b o _ _ hc e _=>⟨o.slots,k b o hc e⟩) (fun b ob _ e n=>by rw [upd_ne (nT b ob e)]; exact n)
  (fun b o hc e=>by
   exact ⟨o,k b o hc e⟩) (fun b xs e=>by rw [upd_ne (ne_of_none e hnT)]; exact e) (fun b u xs e=>by rw [upd_ne (ne_of_none e hnT)]; exact e) (fun b ps e=>⟨#[],by rw [upd_ne (ne_of_none e hnT),e]; simp⟩) (fun m hm=>?_) (fun b u e=>?_) I.bare
 ·obtain ⟨_,q1,q2,q3,q4,q5⟩:=hch b hb
  exact ⟨q3,q1,q4,q5⟩
 ·obtain ⟨ob,es,ep,ho,r⟩:=hm
  exact ⟨ob,es,ep,k _ ob (fun z=>(hch _ z).2.1 rfl) ho,r⟩
 ·by_cases hb:b=T
  ·subst hb; rw [upd_same] at e; cases e; exact new
  ·rw [upd_ne hb] at e
   refine (I.hok b u e).stay (fun c v hc q=>k c v ?_ q) (fun c q=>by rw [upd_ne (ne_of_none q hnT)]; exact q) fun c xs q=>by rw [upd_ne (ne_of_none q hnT)]; exact q
   rcases hc with z | z
   ·rw [z]; exact nit b u e
   ·exact nit c _ z
noncomputable def Itz (K:PySem.W.Frag) (a b:Addr):It :=
 ⟨fun i H=>∃ xs ys x y,SqL K H a xs/\SqL K H b ys/\xs[i]?=some x/\ys[i]?=some y,
  fun i H v H'=>∃ T x y,v=.ref T/\H T=none/\H'=upd H T (.tup [x,y])/\(∀ xs,SqL K H a xs->xs[i]?=some x)/\∀ ys,SqL K H b ys->ys[i]?=some y,
  fun i H=>∃ xs ys,SqL K H a xs/\SqL K H b ys/\i=min xs.length ys.length⟩
theorem turn_zip {P:Program} {w:World} {K:PySem.W.Frag} {elts:List Expr} {k:Nat} {pos:Pos} (a b z TI TO i1 i2:Addr) (D:ZipApart z TI TO i1 i2 a b) :
  Turn P w K (.Tuple elts k pos) (Itz K a b) [z,TI,TO,i1,i2] z (fun i h=>IsZip h z TI TO .none/\IsPair h TI (.ref i1) (.ref i2)/\(∃ u v,IsPair h TO u v)/\h.IsListIter i1 a i/\h.IsListIter i2 b i) where
 mem:=by simp
 obj:=fun i h st c hc=>by
  obtain ⟨h1,h2,⟨u,v,h3⟩,⟨o4,e4,c4,d4⟩,⟨o5,e5,c5,d5⟩⟩:=st
  simp only [List.mem_cons,List.not_mem_nil,or_false] at hc
  rcases hc with rfl | rfl | rfl | rfl | rfl
  ·exact ⟨_,h1,fun v z=>nomatch z⟩
  ·exact ⟨_,h2,fun v z=>nomatch z⟩
  ·exact ⟨_,h3,fun v z=>nomatch z⟩
  ·exact ⟨_,e4,fun v z=>by rw [d4] at z; cases z⟩
  ·exact ⟨_,e5,fun v z=>by rw [d5] at z; cases z⟩
 keep:=fun i h h' st k=>by
  obtain ⟨h1,h2,⟨u,v,h3⟩,h4,h5⟩:=st
  exact ⟨k z (by simp) _ h1,k TI (by simp) _ h2,⟨u,v,k TO (by simp) _ h3⟩,h4.at fun o e=>k i1 (by simp) o e,h5.at fun o e=>k i2 (by simp) o e⟩
 item:=by
  intro X hP hw hK hc i pins s σ H E I hf st hg
  subst hP hw hK
  obtain ⟨xs,ys,x,y,hq1,hq2,hx,hy⟩:=hg
  obtain ⟨its1,rv1,p1,hz1⟩:=I.list hq1
  obtain ⟨its2,rv2,p2,hz2⟩:=I.list hq2
  obtain ⟨u1,hu1,ru1⟩:=rv1.get hx
  obtain ⟨u2,hu2,ru2⟩:=rv2.get hy
  obtain ⟨h1,h2,h3,h4,h5⟩:=st
  have W:=WalksT.zip2 (prog:=X.prog) (w:=X.w) (A:=X.A) (I.ok.hd hc) z TI TO i1 i2 a b D its1.toArray its2.toArray
  have l1:i < its1.length:=(List.getElem?_eq_some_iff.mp hu1).1
  have l2:i < its2.length:=(List.getElem?_eq_some_iff.mp hu2).1
  refine W.item i s _ E (by simp; omega) ⟨h1,h2,h3,h4,h5,p1.isList,p2.isList⟩ fun T vals h' tk hv hT hTu hM hk=>?_
  obtain ⟨v1,v2,e1,e2,rfl⟩:=hv
  have e1':v1=u1:=by
   have:its1[i]?=some v1:=by simpa using e1
   rw [hu1] at this; exact (Option.some.inj this).symm
  have e2':v2=u2:=by
   have:its2[i]?=some v2:=by simpa using e2
   rw [hu2] at this; exact (Option.some.inj this).symm
  subst e1' e2'
  refine ⟨.ref T,rfl,?_⟩
  have hap:=W.apart i T h' hM
  refine W.go elts k pos i T { s with heap:=h',toks:=tk } _ E hM fun h'' hst'' hk''=>?_
  have nT:H T=none:=I.hok.fresh hT
  obtain ⟨oT,eT,cT,nn,dT⟩:=hTu
  have eT':=hk'' T oT hap eT
  have sub:∀ c,c ∉ [z,TI,TO,i1,i2]->c ∉ [z,TO,i1,i2]:=fun c hc hc'=>hc (by
   simp only [List.mem_cons,List.not_mem_nil,or_false] at hc' ⊢
   rcases hc' with h | h | h | h
   ·exact .inl h
   ·exact .inr (.inr (.inl h))
   ·exact .inr (.inr (.inr (.inl h)))
   ·exact .inr (.inr (.inr (.inr h))))
  have I':Inv X pins σ (upd H T (.tup [x,y])) { s with heap:=h'',toks:=tk }:=turnLaid I hf (fun c o hc e=>hk'' c o (sub c hc) (hk c o (sub c hc) e)) hT
   ⟨by rw [sizeLine_eq]; simp,[v1,v2],.cons ru1 (.cons ru2 .nil),oT,eT',cT,nn,dT⟩
  obtain ⟨g1,g2,g3,g4,g5,_,_⟩:=hst''
  refine ⟨.ref T,_,I',rfl,⟨T,x,y,rfl,nT,rfl,fun zs hz=>by rw [I.list_inj hz hq1]; exact hx,fun zs hz=>by rw [I.list_inj hz hq2]; exact hy⟩,⟨g1,g2,g3,g4,g5⟩,fun c hc=>?_⟩
  have hlt:c < s.heap.objs.size:=by
   obtain ⟨u,v,h3⟩:=h3
   obtain ⟨o4,e4,_⟩:=h4
   obtain ⟨o5,e5,_⟩:=h5
   simp only [List.mem_cons,List.not_mem_nil,or_false] at hc
   rcases hc with rfl | rfl | rfl | rfl | rfl
   ·exact Heap.lt_size h1
   ·exact Heap.lt_size h2
   ·exact Heap.lt_size h3
   ·exact Heap.lt_size e4
   ·exact Heap.lt_size e5
  rw [upd_ne (Nat.ne_of_lt (Nat.lt_of_lt_of_le hlt hT))]
  exact (hf c hc).1
 done:=by
  intro X hP hw hK hc i pins s σ H E I hf st hg
  subst hP hw hK
  obtain ⟨xs,ys,hq1,hq2,hi⟩:=hg
  obtain ⟨its1,rv1,p1,hz1⟩:=I.list hq1
  obtain ⟨its2,rv2,p2,hz2⟩:=I.list hq2
  obtain ⟨h1,h2,h3,h4,h5⟩:=st
  have W:=WalksT.zip2 (prog:=X.prog) (w:=X.w) (A:=X.A) (I.ok.hd hc) z TI TO i1 i2 a b D its1.toArray its2.toArray
  have en:min its1.toArray.size its2.toArray.size=i:=by
   rw [hi,List.size_toArray,List.size_toArray,rv1.length,rv2.length]
  refine W.done s _ E (by rw [en]; exact ⟨h1,h2,h3,h4,h5,p1.isList,p2.isList⟩) fun h' tk hk=>⟨rfl,?_⟩
  have nit:∀ b u,H b=some u->b ∉ [z,TI,TO,i1,i2]:=fun b u e q=>by rw [(hf b q).1] at e; cases e
  have sub:∀ c,c ∉ [z,TI,TO,i1,i2]->c ∉ [z,TO,i1,i2]:=fun c hc hc'=>hc (by
   simp only [List.mem_cons,List.not_mem_nil,or_false] at hc' ⊢
   rcases hc' with h | h | h | h
   ·exact .inl h
   ·exact .inr (.inr (.inl h))
   ·exact .inr (.inr (.inr (.inl h)))
   ·exact .inr (.inr (.inr (.inr h))))
  have k:∀ b o,b ∉ [z,TI,TO,i1,i2]->s.heap.get? b=some o->h'.get? b=some o:=fun b o hb e=>hk b o (sub b hb) e
  refine I.step (g':=s.gens) (d':=s.drawn) (ch:=[z,TI,TO,i1,i2]) (fun b hb=>?_) (fun b o _ _ hc e _=>k b o hc e) (fun b o _ _ hc e _=>⟨o.slots,k b o hc e⟩) (fun b ob _ e n=>n)
   (fun b o hc e=>⟨o,k b o hc e⟩) (fun b xs e=>e) (fun b u xs e=>e) (fun b ps e=>⟨#[],by rw [e]; simp⟩) (fun m hm=>?_) (fun b u e=>?_) I.bare
  ·obtain ⟨_,q1,q2,q3,q4,q5⟩:=hf b hb
   exact ⟨q3,q1,q4,q5⟩
  ·obtain ⟨ob,es,ep,ho,r⟩:=hm
   exact ⟨ob,es,ep,k _ ob (fun z=>(hf _ z).2.1 rfl) ho,r⟩
  ·refine (I.hok b u e).stay (fun c v hc q=>k c v ?_ q) (fun c q=>q) fun c xs q=>q
   rcases hc with z | z
   ·rw [z]; exact nit b u e
   ·exact nit c _ z
 self:=fun _ _ _ _ _ st h=>wpAny_pyIter_zip st.1 h

section
variable {X:Cx} {G:Fc} {a b:Expr} {p pos tpos:Pos} {elts:List Expr} {tk:Nat}
noncomputable def iZip (K:PySem.W.Frag) (ta:TA):TI:=fun σ H Rr=>ta σ H fun vs H1=>∃ a b,vs=[.ref a,.ref b]/\(∃ xs,SqL K H1 a xs)/\(∃ ys,SqL K H1 b ys)/\Rr (Itz K a b) H1
theorem pi_zip {ta:TA} (hg:Gl X "zip") (hm:X.mg "zip"=none) (ha:PA X [a,b] ta) (hs:starEach [a,b] X.env=[(false,eval a X.env),(false,eval b X.env)]:=by rfl) (hs2:starEach [b] X.env=[(false,eval b X.env)]:=by rfl) :
  PI X (.Tuple elts tk tpos) (.Call (.Name "zip" p) [a,b] [] pos) (iZip X.K ta):=by
 intro pins s σ H Rr I h
 refine Call_ (ld_blt I hg hm boot_zip (PyProof.Rows.callWith_type1 (thn (ha pos pins s σ H _ I h) fun us s1 ⟨vs,H1,I1,r1,q1⟩=>?_) (by rw [hs,hs2]) (by rw [hs2]; rfl)))
 obtain ⟨l1,l2,e,⟨xs,hx⟩,⟨ys,hy⟩,q⟩:=q1
 subst e
 cases r1 with
 | cons r rr =>
  cases rr with
  | cons r' rr =>
   cases rr
   cases r
   cases r'
   obtain ⟨its1,rv1,p1,hz1⟩:=I1.list hx
   obtain ⟨its2,rv2,p2,hz2⟩:=I1.list hy
   have hlt1:l1 < s1.heap.objs.size:=by obtain ⟨o,e,_⟩:=p1.isList; exact Heap.lt_size e
   have hlt2:l2 < s1.heap.objs.size:=by obtain ⟨o,e,_⟩:=p2.isList; exact Heap.lt_size e
   refine call_zip_2 p1.isList p2.isList fun h' hz hTI hTO hi1 hi2 hsz hk=>?_
   refine wpAny_pyIter_zip hz ?_
   have D:ZipApart (s1.heap.objs.size + 4) (s1.heap.objs.size + 2) (s1.heap.objs.size + 3) s1.heap.objs.size (s1.heap.objs.size + 1) l1 l2:=PySem.W.ktu_apart _ _ _ hlt1 hlt2
   refine ⟨_,[s1.heap.objs.size + 4,s1.heap.objs.size + 2,s1.heap.objs.size + 3,s1.heap.objs.size,s1.heap.objs.size + 1],_,_,H1,rfl,I1.kept (t':=s1.toks) hk,turn_zip l1 l2 _ _ _ _ _ D,⟨hz,hTI,⟨_,_,hTO⟩,hi1,hi2⟩,fun c hc=>?_,q⟩
   have hge:s1.heap.objs.size<=c:=by
    simp only [List.mem_cons,List.not_mem_nil,or_false] at hc
    rcases hc with rfl | rfl | rfl | rfl | rfl
    ·exact Nat.le_add_right _ _
    ·exact Nat.le_add_right _ _
    ·exact Nat.le_add_right _ _
    ·exact Nat.le_refl _
    ·exact Nat.le_add_right _ _
   exact I1.fpOk hge (I1.hok.fresh hge)
noncomputable def iZ (ma mb:EV):Ev->R (List D):=fun E=>ma E >>= fun x=>mb E >>= fun y=>match x,y with
 | .lst xs,.lst ys=>.ok (List.zipWith (fun a b=>D.tup [a,b]) xs ys)
 | _,_=>.no
theorem si_zip {ma mb:EV} (hg:Gl X "zip") (hm:X.mg "zip"=none) (ha:SF X G a ma) (hb:SF X G b mb) (hs:starEach [a,b] X.env=[(false,eval a X.env),(false,eval b X.env)]:=by rfl) (hs2:starEach [b] X.env=[(false,eval b X.env)]:=by rfl) :
  SI X G (.Tuple elts tk tpos) (.Call (.Name "zip" p) [a,b] [] pos) (iZ ma mb) :=
 (pi_zip hg hm (pa_cons ha (pa_cons hb pa_nil hs2) (by rw [hs,hs2])) hs hs2).imp fun σ H Q z0=>z0.elim fun E z0=>z0.elim fun hr f=>⟨E,hr,(Fin.bind f).mono fun d p v H1 s1 z=>⟨E,hr.same s1,(Fin.bind p).mono fun e p w H2 s2 y=>by
  cases d with
  | lst xs =>
   cases e with
   | lst ys =>
    have z:=z.mono s2 fun _ q=>q
    unfold Rp at z y
    obtain ⟨l1,vs,rfl,no1,h1,r1⟩:=z
    obtain ⟨l2,ws,rfl,no2,h2,r2⟩:=y
    refine ⟨l1,l2,rfl,⟨vs,SqL.of h1⟩,⟨ws,SqL.of h2⟩,p _ H2 (s1.trans s2) fun G' E' σ' H' le r'=>?_⟩
    have h1':=(locked le r' _ _ no1 h1).1
    have h2':=(locked le r' _ _ no2 h2).1
    refine ⟨⟨vs,ws,SqL.of h1',SqL.of h2',by rw [List.length_zipWith,r1.length,r2.length]⟩,fun i d hd=>?_⟩
    have hd':∃ dx dy,xs[i]?=some dx/\ys[i]?=some dy/\d=.tup [dx,dy]:=by
     rw [List.getElem?_zipWith] at hd
     cases e1:xs[i]? with
     | none=>rw [e1] at hd; simp at hd
     | some dx =>
      cases e2:ys[i]? with
      | none=>rw [e1,e2] at hd; simp at hd
      | some dy=>rw [e1,e2] at hd; simp at hd; exact ⟨dx,dy,rfl,rfl,hd.symm⟩
    obtain ⟨dx,dy,e1,e2,rfl⟩:=hd'
    obtain ⟨vx,hvx,px⟩:=r1.get e1
    obtain ⟨vy,hvy,py⟩:=r2.get e2
    refine ⟨⟨vs,ws,vx,vy,SqL.of h1',SqL.of h2',hvx,hvy⟩,?_⟩
    rintro x H'' ⟨T,ux,uy,ex,nT,eH,q1,q2⟩
    subst ex eH
    have a1:=q1 vs (SqL.of h1')
    have a2:=q2 ws (SqL.of h2')
    rw [hvx] at a1; cases a1
    rw [hvy] at a2; cases a2
    refine ⟨same_upd nT,?_⟩
    unfold Rp
    refine ⟨T,[vx,vy],rfl,r'.fresh nT,upd_same,Rps.cons ?_ (Rps.cons ?_ Rps.nil)⟩
    ·exact (px.move (locked le r')).mono (same_upd nT) fun _ q=>q
    ·exact (py.move (locked le r')).mono (same_upd nT) fun _ q=>q
   | _=>exact p.elim
  | _=>exact p.elim⟩⟩
end
end M

set_option Elab.async false
set_option linter.all false
set_option maxRecDepth 100000
namespace M
open PySem PySem.Spec PyProof.Rows L2

noncomputable def CallD (K:PySem.W.Frag) (r:List V->Hp->VK->Prop) (f:D->Option D):Prop :=
 ∀ (H:Hp) (O:Addr->Prop) (dx d:D) (v:V) (Q:VK),Sane H O->f dx=some d->Rt K H O dx v->(∀ u H',Same H H'->Rp K H' O d u->Q u H')->r [v] H Q
noncomputable def CallN (K:PySem.W.Frag) (r:List V->Hp->VK->Prop) (f:D->Option D):Prop :=
 ∀ (H:Hp) (O:Addr->Prop) (dx d:D) (v:V) (Q:VK),Sane H O->f dx=some d->Rt K H O dx v->(∀ a H',Same H H'->H a=none->Own K H' (fun b=>O b\/b=a) d a->Q (.ref a) H')->r [v] H Q
section
variable {X:Cx} {G:Fc} {r:List V->Hp->VK->Prop} {f:D->Option D} {x:Str} {p pos:Pos} {e:Expr} {m:EV}
theorem sf_callB {id:String} (hc:CallR X (.builtin id) r) (hf:CallD X.K r f) (hg:Gl X x) (hm:X.mg x=none) (hv:bootBuiltins x=some (.builtin id)) (he:SE X G e m) (hn:x ≠ "__name__":=by decide) (hdb:(x == ("__debug__":Str))=false:=by decide)
  (hs:starEach [e] X.env=(false,eval e X.env) :: starEach [] X.env:=by rfl) (hpl:(backTo pos (starEach [] X.env)).any (·.1)=false:=by rfl):SF X G (.Call (.Name x p) [e] [] pos) (e1 f m) :=
 (pe_callB hc hg hm hv (pa_cons he pa_nil hs) hn hdb hs hpl).imp fun σ H Q z0=>z0.elim fun E z0=>z0.elim fun hr h=>⟨E,hr,(Fin.bind h).mono fun dx fx v H1 s1 p1=>by
  obtain ⟨d,e,q⟩:=Fin.of fx
  exact hf H1 _ dx d v Q (hr.same s1).sane e p1 fun u H' s z=>q u H' (s1.trans s) z⟩
theorem sn_callB {id:String} (hc:CallR X (.builtin id) r) (hf:CallN X.K r f) (hg:Gl X x) (hm:X.mg x=none) (hv:bootBuiltins x=some (.builtin id)) (he:SE X G e m) (hn:x ≠ "__name__":=by decide) (hdb:(x == ("__debug__":Str))=false:=by decide)
  (hs:starEach [e] X.env=(false,eval e X.env) :: starEach [] X.env:=by rfl) (hpl:(backTo pos (starEach [] X.env)).any (·.1)=false:=by rfl):SN X G (.Call (.Name x p) [e] [] pos) (e1 f m) :=
 (pe_callB hc hg hm hv (pa_cons he pa_nil hs) hn hdb hs hpl).imp fun σ H Q z0=>z0.elim fun E z0=>z0.elim fun hr h=>⟨E,hr,(Fin.bind h).mono fun dx fx v H1 s1 p1=>by
  obtain ⟨d,e,q⟩:=Fin.of fx
  refine hf H1 _ dx d v Q (hr.same s1).sane e p1 fun a H' s n z=>q a H' (s1.trans s) ?_ z
  cases w:H a with
  | none=>rfl
  | some o=>rw [s1 _ _ w] at n; cases n⟩
theorem sn_callT {T:String} (hc:CallR X (.type T) r) (hf:CallN X.K r f) (hg:Gl X x) (hm:X.mg x=none) (hv:bootBuiltins x=some (.type T)) (he:SE X G e m) (hn:x ≠ "__name__":=by decide) (hdb:(x == ("__debug__":Str))=false:=by decide)
  (hs:starEach [e] X.env=(false,eval e X.env) :: starEach [] X.env:=by rfl) (hpl:(backTo pos (starEach [] X.env)).any (·.1)=false:=by rfl):SN X G (.Call (.Name x p) [e] [] pos) (e1 f m) :=
 (pe_callTy hc hg hm hv (pa_cons he pa_nil hs) hn hdb hs hpl).imp fun σ H Q z0=>z0.elim fun E z0=>z0.elim fun hr h=>⟨E,hr,(Fin.bind h).mono fun dx fx v H1 s1 p1=>by
  obtain ⟨d,e,q⟩:=Fin.of fx
  refine hf H1 _ dx d v Q (hr.same s1).sane e p1 fun a H' s n z=>q a H' (s1.trans s) ?_ z
  cases w:H a with
  | none=>rfl
  | some o=>rw [s1 _ _ w] at n; cases n⟩
end

theorem meets_len_H {prog:Program} {w:World} {K:Type} [DecidableEq K] (knd:HeapKind prog w K) (d:Addr) (hd:(d == sysModules)=false) :
  MeetsIn prog w (Builtin.«dict.__len__» ⟨[.ref d],[]⟩) (fun _ R s=>∃ kvs:List (K × Addr × Value),s.heap.DictOfH knd d kvs/\R (.ok (.ret (.int kvs.length s.toks))) { s with toks:=s.toks + 1 }) :=
 .of_wp fun A R s ⟨kvs,hm,h⟩=>by
  obtain ⟨o,es,ep,ho,hc,hdat,hk,hp⟩:=hm
  show wpAny _ _ (dictSize d >>= _) _ _ s
  unfold dictSize
  refine wpAny_bind (wpAny_bind (wpAny_dictEntries ho hdat (wpAny_pure ?_)))
  show wpAny _ _ (Builtin.Dict.pendingCount d >>= _) _ _ s
  refine wpAny_bind (wpAny_pendingCount_other hd ?_)
  refine wpAny_ret_mkInt ?_
  have:es.size=kvs.length:=by
   have:=congrArg List.length hk
   simpa using this
  rw [Nat.add_zero,this]; exact h
theorem call_len_H {prog:Program} {w:World} {A:Around} {E:Value->Shared->Prop} {s:Shared} {K:Type} [DecidableEq K] {knd:HeapKind prog w K} {d:Addr} {kvs:List (K × Addr × Value)} {Q:Value->Shared->Prop} (hd:(d == sysModules)=false) (hm:s.heap.DictOfH knd d kvs) (hfit:(kvs.length:Int) < 2 ^ 63)
  (h:Q (.int kvs.length (s.toks + 1)) { s with toks:=s.toks + 1 + 1 }):wpAny (model prog w) A (call (.builtin "len") [.ref d]) Q E s:=by
 refine Calls.call_function_entry kind_len plain_len entry_len (args_len1 _) ?_
 unfold Builtin.«len»
 refine wpAny_bind (m:=oneArg "len" _) (wpAny_pure ?_)
 refine wpAny_bind (m:=callSpecial? (.ref d) (Str.ofString "__len__")) (wpAny_callSpecial?_slot (name:=Str.ofString "__len__") hm.typeIs F.slot_dict_len
  (call_meetsIn F.slot_dict_len hm.typeIs F.entry_dict_len (F.args_dict_len_1 _) (meets_len_H knd d hd) ⟨kvs,hm,?_⟩))
 show wpAny _ _ _ _ _ { s with toks:=s.toks + 1 }
 refine wpAny_bind (wpAny_holding (wpAny_pure ?_))
 refine wpAny_bind (wpAny_letGo ?_)
 show wpAny _ _ (if ((kvs.length:Nat):Int) < 0 then _ else _) _ _ _
 rw [if_neg (by omega)]
 show wpAny _ _ (if ((kvs.length:Nat):Int) ≥ 2 ^ 63 then _ else _) _ _ _
 rw [if_neg (by omega)]
 exact wpAny_bind (wpAny_mkInt (wpAny_pure ⟨_,rfl,h⟩))
section
variable {X:Cx}
theorem call_lenT:CallR X (.builtin "len") (fun xs H Q=>∃ a kvs,xs=[V.ref a]/\Rd H a (.dT kvs)/\Q (.int kvs.length) H):=by
 intro pins s σ H xs us Q I r h
 obtain ⟨a,kvs,rfl,ha,q⟩:=h
 obtain ⟨u,rfl,ru⟩:=vals1 r
 cases ru
 obtain ⟨z,hd,ys,rel,dd⟩:=dt_rd I.hok ha
 have hl:ys.length=kvs.length:=(Paired.length rel).symm
 refine call_len_H hd dd (by rw [hl]; rw [sizeLine_eq] at z; omega) ?_
 rw [hl]
 exact ⟨.int kvs.length,H,I.tok _,⟨_,rfl⟩,q⟩
noncomputable def rLen (K:PySem.W.Frag):List V->Hp->VK->Prop:=fun xs H Q=>(∃ p ys,xs=[.ref p]/\(SqL K H p ys\/SqT K H p ys)/\Q (.int ys.length) H)\/(∃ z,xs=[.str z]/\z.length<=sizeLine/\Q (.int z.length) H)\/(∃ a kvs,xs=[V.ref a]/\Rd H a (.dT kvs)/\Q (.int kvs.length) H)
theorem call_len:CallR X (.builtin "len") (rLen X.K):=call_len_seq.or (call_len_str.or call_lenT)
noncomputable def fLen:D->Option D
 | .lst ds=>some (.int ds.length)
 | .tup ds=>some (.int ds.length)
 | .scr ns=>some (.int ns.length)
 | .dic kvs=>some (.int kvs.length)
 | .str z=>if z.length<=1000000 then some (.int z.length) else none
 | _=>none
theorem cd_len {K:PySem.W.Frag}:CallD K (rLen K) fLen:=fun H O dx d v Q fr e rx q=>by
 cases dx with
 | lst ds =>
  cases e
  obtain ⟨a,vs,rfl,h1,r1⟩:=rx.lst
  exact .inl ⟨a,vs,rfl,.inl (SqL.of h1),by rw [r1.length]; exact q _ H (Same.refl _) (by unfold Rp; rfl)⟩
 | tup ds =>
  cases e
  obtain ⟨a,vs,rfl,h1,r1⟩:=rx.tup
  exact .inl ⟨a,vs,rfl,.inr (SqT.of h1),by rw [r1.length]; exact q _ H (Same.refl _) (by unfold Rp; rfl)⟩
 | scr ns =>
  cases e
  rcases rx with rx | ⟨_,_,h⟩
  ·obtain ⟨a,rfl,h1⟩:=rx.scr
   exact .inl ⟨a,_,rfl,.inl h1,by rw [List.length_map]; exact q _ H (Same.refl _) (by unfold Rp; rfl)⟩
  ·exact h.elim
 | dic kvs =>
  cases e
  obtain ⟨a,ws,rfl,h1,r1⟩:=rx.dic
  exact .inr (.inr ⟨a,ws,rfl,h1,by rw [r1.length]; exact q _ H (Same.refl _) (by unfold Rp; rfl)⟩)
 | str z =>
  simp only [fLen] at e
  split at e
  ·rename_i hz
   cases e
   exact .inr (.inl ⟨z,by rw [rx.str],by rw [sizeLine_eq]; omega,q _ H (Same.refl _) (by unfold Rp; rfl)⟩)
  ·cases e
 | _=>cases e
noncomputable def rList (K:PySem.W.Frag):List V->Hp->VK->Prop:=fun xs H Q=>∃ p ys,xs=[.ref p]/\(SqL K H p ys\/SqT K H p ys)/\∀ l,H l=none->Q (.ref l) (upd H l (.lst ys))
theorem call_list:CallR X (.type "list") (rList X.K):=call_list_of
noncomputable def fList:D->Option D
 | .lst ds=>some (.lst ds)
 | .tup ds=>some (.lst ds)
 | _=>none
theorem cn_list {K:PySem.W.Frag}:CallN K (rList K) fList:=fun H O dx d v Q fr e rx q=>by
 cases dx with
 | lst ds =>
  cases e
  obtain ⟨a,vs,rfl,h1,r1⟩:=rx.lst
  exact ⟨a,vs,rfl,.inl (SqL.of h1),fun l hl=>q l _ (same_upd hl) hl ⟨vs,upd_same,(r1.fresh hl).mono (same_upd hl) fun _ z=>z⟩⟩
 | tup ds =>
  cases e
  obtain ⟨a,vs,rfl,h1,r1⟩:=rx.tup
  exact ⟨a,vs,rfl,.inr (SqT.of h1),fun l hl=>q l _ (same_upd hl) hl ⟨vs,upd_same,(r1.fresh hl).mono (same_upd hl) fun _ z=>z⟩⟩
 | _=>cases e
noncomputable def bls:List D->Option (List Bool)
 | []=>some []
 | .bl b :: r=>(bls r).map (b :: ·)
 | _ :: _=>none
@[simp] theorem bls_map:∀ bs:List Bool,bls (bs.map D.bl)=some bs
 | []=>rfl
 | n :: ns=>by simp [bls,bls_map ns]
noncomputable def fAll:D->Option D
 | .lst ds=>(bls ds).map fun bs=>.bl (bs.all id)
 | _=>none
end
end M

set_option Elab.async false
set_option linter.all false
set_option maxRecDepth 100000
namespace M
open PySem PySem.W PySem.Spec PyProof.Rows L2

structure LtOk (lt:Nat->Nat->Bool):Prop where
 refl:∀ a,lt a a=false
 tr:∀ {a b c},lt b a=false->lt c b=false->lt c a=false
 as:∀ {a b},lt a b=true->lt b a=false
noncomputable def _root_.PySem.W.KasT.kgo {α:Type} (n:Nat) (lt:Nat->Nat->Bool) (P:α->Prop):KasT α->Prop
 | .ret a=>P a
 | .ask i j k=>i < n/\j < n/\(k (lt i j)).kgo n lt P
section
variable {n:Nat} {lt:Nat->Nat->Bool}
theorem kgo_bind {α β:Type} {f:α->KasT β} {P:β->Prop}:∀ {t:KasT α},t.kgo n lt (fun a=>(f a).kgo n lt P)->(t.bind f).kgo n lt P
 | .ret _,h=>h
 | .ask i j k,h=>⟨h.1,h.2.1,kgo_bind (t:=k (lt i j)) h.2.2⟩
theorem kgo_mono {α:Type} {P Q:α->Prop} (pq:∀ a,P a->Q a):∀ {t:KasT α},t.kgo n lt P->t.kgo n lt Q
 | .ret _,h=>pq _ h
 | .ask i j k,h=>⟨h.1,h.2.1,kgo_mono pq (t:=k (lt i j)) h.2.2⟩
theorem kgo_wp {α:Type} {cmp:Nat->Nat->(Bool->Shared->Prop)->Shared->Prop} {s:Shared} {P:α->Prop} {Q:α->Shared->Prop} (hc:∀ i j C,i < n->j < n->C (lt i j) s->cmp i j C s) (pq:∀ a,P a->Q a s):∀ {t:KasT α},t.kgo n lt P->t.kasWp cmp Q s
 | .ret _,h=>pq _ h
 | .ask i j k,h=>hc i j _ h.1 h.2.1 (kgo_wp hc pq (t:=k (lt i j)) h.2.2)
noncomputable def Pm (n:Nat) (p:Array Nat):Prop:=p.Perm (List.range n).toArray
theorem Pm.size {p:Array Nat} (h:Pm n p):p.size=n:=by have:=h.size_eq; simpa using this
theorem Pm.bd {p:Array Nat} (h:Pm n p) (h1:1<=n) (i:Nat):p.getD i 0 < n:=by
 by_cases hi:i < p.size
 ·have hm:p[i] ∈ p:=Array.getElem_mem hi
  have:p[i] ∈ (List.range n).toArray:=(h.mem_iff).mp hm
  simp at this
  simpa [Array.getD,hi] using this
 ·simp [Array.getD,hi]; omega
noncomputable def Sd (lt:Nat->Nat->Bool) (p:Array Nat) (m:Nat):Prop:=∀ i j,i<=j->j < m->lt (p.getD j 0) (p.getD i 0)=false
noncomputable def Sf (lt:Nat->Nat->Bool) (p:Array Nat) (m:Nat):Prop:=∀ i j,i<=j->j < m->lt (p.getD i 0) (p.getD j 0)=false
noncomputable def Eqv (lt:Nat->Nat->Bool) (a b:Nat):Prop:=lt a b=false/\lt b a=false
variable (L:LtOk lt)
include L
theorem Eqv.l {a b c:Nat} (e:Eqv lt a b) (h:lt c a=false):lt c b=false:=L.tr e.1 h
theorem Eqv.r {a b c:Nat} (e:Eqv lt a b) (h:lt a c=false):lt b c=false:=L.tr h e.2
theorem Sf.eqv {p q:Array Nat} {m:Nat} (h:Sf lt p m) (e:∀ k,k < m->Eqv lt (p.getD k 0) (q.getD k 0)):Sf lt q m:=fun i j hij hj =>
 Eqv.r L (e i (by omega)) (Eqv.l L (e j hj) (h i j hij hj))
theorem asc_ok {p:Array Nat} (hp:Pm n p) (h1:1<=n):∀ (f m:Nat),1<=m->m + f<=n->Sd lt p m->(kas_asc p f m).kgo n lt fun r=>m<=r/\r<=m + f/\Sd lt p r/\(r < m + f->lt (p.getD r 0) (p.getD (r - 1) 0)=true)
 | 0,m,_,_,hs=>⟨Nat.le_refl _,Nat.le_refl _,hs,fun h=>absurd h (Nat.lt_irrefl _)⟩
 | f + 1,m,hm,hf,hs=>by
  refine ⟨hp.bd h1 _,hp.bd h1 _,?_⟩
  cases c:lt (p.getD m 0) (p.getD (m - 1) 0) with
  | true=>dsimp only; rw [if_pos rfl]; exact ⟨Nat.le_refl _,by omega,hs,fun _=>c⟩
  | false =>
   dsimp only
   rw [if_neg Bool.false_ne_true]
   refine kgo_mono (fun r ⟨q1,q2,q3,q4⟩=>⟨by omega,by omega,q3,fun h=>q4 (by omega)⟩) (asc_ok hp h1 f (m + 1) (by omega) (by omega) fun i j hij hj=>?_)
   by_cases hjm:j < m
   ·exact hs i j hij hjm
   ·have:j=m:=by omega
    subst this
    by_cases hi:i=j
    ·subst hi; exact L.refl _
    ·exact L.tr (hs i (j - 1) (by omega) (by omega)) c
theorem rev_get {p:Array Nat} {i j:Nat} (hj:j<=p.size) (k:Nat):(kas_rev p i j).getD k 0=if i<=k/\k < j then p.getD (i + j - 1 - k) 0 else p.getD k 0:=by
 unfold kas_rev
 have:=getElem?_mirror_all (xs:=p) (i:=i) hj k
 rw [Array.getD_eq_getD_getElem?,this]
 split
 ·rw [Array.getD_eq_getD_getElem?]
 ·rw [Array.getD_eq_getD_getElem?]
omit L in
theorem rev_pm {p:Array Nat} {i j:Nat} (hp:Pm n p):Pm n (kas_rev p i j):=(mirror_perm p i j _).trans hp
theorem rev_eqv {p:Array Nat} {i j:Nat} (hj:j<=p.size) (e:∀ a b,i<=a->a < j->i<=b->b < j->lt (p.getD a 0) (p.getD b 0)=false) (k:Nat):Eqv lt (p.getD k 0) ((kas_rev p i j).getD k 0):=by
 rw [rev_get L hj]
 split
 ·rename_i h
  exact ⟨e _ _ (by omega (config:={})) (by omega (config:={})) (by omega (config:={})) (by omega (config:={})),e _ _ (by omega (config:={})) (by omega (config:={})) (by omega (config:={})) (by omega (config:={}))⟩
 ·exact ⟨L.refl _,L.refl _⟩
theorem desc_ok (h1:1<=n):∀ (f:Nat) (p:Array Nat) (m q:Nat),Pm n p->Sf lt p m->q + 1<=m->(∀ a b,m - (q + 1)<=a->a < m->m - (q + 1)<=b->b < m->lt (p.getD a 0) (p.getD b 0)=false)->m + f<=n →
  (kas_desc f p m q).kgo n lt fun r=>Pm n r.1/\Sf lt r.1 r.2.1/\m<=r.2.1/\r.2.1<=m + f/\r.2.2 + 1<=r.2.1/\∀ a b,r.2.1 - (r.2.2 + 1)<=a->a < r.2.1->r.2.1 - (r.2.2 + 1)<=b->b < r.2.1->lt (r.1.getD a 0) (r.1.getD b 0)=false
 | 0,p,m,q,hp,hs,hq,he,_=>⟨hp,hs,Nat.le_refl _,Nat.le_refl _,hq,he⟩
 | f + 1,p,m,q,hp,hs,hq,he,hf=>by
  refine ⟨hp.bd h1 _,hp.bd h1 _,?_⟩
  have step:∀ {p':Array Nat},(∀ k,k < m->Eqv lt (p.getD k 0) (p'.getD k 0))->p'.getD m 0=p.getD m 0->lt (p.getD m 0) (p.getD (m - 1) 0)=true->Sf lt p' (m + 1):=fun {p'} e em c i j hij hj=>by
   by_cases hjm:j < m
   ·exact Sf.eqv L hs e i j hij hjm
   ·have:j=m:=by omega
    subst this
    by_cases hi:i=j
    ·subst hi; exact L.refl _
    ·rw [em]
     refine Eqv.r L (e i (by omega)) ?_
     exact L.tr (L.as c) (hs i (j - 1) (by omega) (by omega))
  have wk:∀ {P Q:Array Nat × Nat × Nat->Prop},(∀ r,P r->Q r)->∀ {t:KasT (Array Nat × Nat × Nat)},t.kgo n lt P->t.kgo n lt Q:=fun pq _ h=>kgo_mono pq h
  cases c:lt (p.getD m 0) (p.getD (m - 1) 0) with
  | true =>
   dsimp only
   rw [if_pos rfl]
   by_cases hq0:q > 0
   ·rw [if_pos hq0]
    have hsz:m<=p.size:=by rw [hp.size]; omega
    have ev:=rev_eqv L (i:=m - (q + 1)) hsz he
    have em:(kas_rev p (m - (q + 1)) m).getD m 0=p.getD m 0:=by rw [rev_get L hsz,if_neg (by omega)]
    refine wk (fun r ⟨q1,q2,q3,q4,q5,q6⟩=>⟨q1,q2,by omega,by omega,q5,q6⟩) (desc_ok h1 f _ (m + 1) 0 (rev_pm hp) (step (fun k hk=>ev k) em c) (by omega) (fun a b h1 h2 h3 h4=>?_) (by omega))
    have:a=b:=by omega
    subst this; exact L.refl _
   ·rw [if_neg hq0]
    refine wk (fun r ⟨q1,q2,q3,q4,q5,q6⟩=>⟨q1,q2,by omega,by omega,q5,q6⟩) (desc_ok h1 f _ (m + 1) 0 hp (step (fun k _=>⟨L.refl _,L.refl _⟩) rfl c) (by omega) (fun a b h1 h2 h3 h4=>?_) (by omega))
    have:a=b:=by omega
    subst this; exact L.refl _
  | false =>
   dsimp only
   rw [if_neg Bool.false_ne_true]
   refine ⟨hp.bd h1 _,hp.bd h1 _,?_⟩
   cases d:lt (p.getD (m - 1) 0) (p.getD m 0) with
   | true=>dsimp only; rw [if_pos rfl]; exact ⟨hp,hs,Nat.le_refl _,Nat.le_add_right _ _,hq,he⟩
   | false =>
    dsimp only
    rw [if_neg Bool.false_ne_true]
    have ev:Eqv lt (p.getD (m - 1) 0) (p.getD m 0):=⟨d,c⟩
    refine wk (fun r ⟨q1,q2,q3,q4,q5,q6⟩=>⟨q1,q2,by omega,by omega,q5,q6⟩) (desc_ok h1 f _ (m + 1) (q + 1) hp (fun i j hij hj=>?_) (by omega) (fun a b h1 h2 h3 h4=>?_) (by omega))
    ·by_cases hjm:j < m
     ·exact hs i j hij hjm
     ·have:j=m:=by omega
      subst this
      by_cases hi:i=j
      ·subst hi; exact L.refl _
      ·exact Eqv.l L ev (hs i (j - 1) (by omega) (by omega))
    ·by_cases ha:a < m
     ·by_cases hb:b < m
      ·exact he a b (by omega) ha (by omega) hb
      ·have:b=m:=by omega
       subst this
       exact Eqv.l L ev (he a (b - 1) (by omega) ha (by omega) (by omega))
     ·have:a=m:=by omega
      subst this
      by_cases hb:b < a
      ·exact Eqv.r L ev (he (a - 1) b (by omega) (by omega) (by omega) hb)
      ·have:b=a:=by omega
       subst this; exact L.refl _
noncomputable def RunOk (n:Nat) (lt:Nat->Nat->Bool) (r:Nat × Array Nat):Prop:=Pm n r.2/\1<=r.1/\r.1<=n/\Sd lt r.2 r.1
theorem tail3_ok (h1:1<=n) {p:Array Nat} {m:Nat} (hp:Pm n p) (hm:1<=m) (hmn:m<=n) (hs:Sf lt p m):(kas_tail3 m n p).kgo n lt (RunOk n lt):=by
 refine kgo_bind ?_
 have hsz:m<=p.size:=by rw [hp.size]; omega (config:={})
 refine kgo_mono (fun r ⟨q1,q2,q3,_⟩=>⟨rev_pm hp,by omega (config:={}),by omega (config:={}),q3⟩) (asc_ok L (rev_pm hp) h1 (n - m) m hm (by omega (config:={})) fun i j hij hj=>?_)
 rw [rev_get L hsz,rev_get L hsz,if_pos (by omega (config:={})),if_pos (by omega (config:={}))]
 exact hs _ _ (by omega (config:={})) (by omega (config:={}))
theorem descPart_ok (h1:1<=n) {p:Array Nat} {m:Nat} (hp:Pm n p) (hmn:m + 1<=n) (hs:Sf lt p (m + 1)):(kas_descPart m n p).kgo n lt (RunOk n lt):=by
 refine kgo_bind (kgo_mono (fun r ⟨q1,q2,q3,q4,q5,q6⟩=>?_) (desc_ok L h1 (n - (m + 1)) p (m + 1) 0 hp hs (by omega) (fun a b h1 h2 h3 h4=>by
  have:a=b:=by omega
  subst this; exact L.refl _) (by omega)))
 split
 ·exact tail3_ok L h1 (rev_pm q1) (by omega) (by omega) (Sf.eqv L q2 fun k _=>rev_eqv L (by rw [q1.size]; omega) q6 k)
 ·exact tail3_ok L h1 q1 (by omega) (by omega) q2
theorem count_ok (h2:2<=n) {p:Array Nat} (hp:Pm n p):(kas_count n p).kgo n lt (RunOk n lt):=by
 refine kgo_bind (kgo_mono (fun r ⟨q1,q2,q3,q4⟩=>?_) (asc_ok L hp (by omega) (n - 1) 1 (Nat.le_refl _) (by omega) fun i j hij hj=>by
  have:i=j:=by omega
  subst this; exact L.refl _))
 split
 ·exact ⟨hp,q1,by omega,q3⟩
 ·rename_i hr
  have hr':r < n:=by
   have:¬ r=n:=by simpa using hr
   omega
  have hc:=q4 (by omega)
  split
  ·rename_i hr1
   refine ⟨hp.bd (by omega) _,hp.bd (by omega) _,?_⟩
   cases c:lt (p.getD 0 0) (p.getD (r - 1) 0) with
   | true=>dsimp only; rw [if_pos rfl]; exact ⟨hp,q1,by omega,q3⟩
   | false =>
    dsimp only
    rw [if_neg Bool.false_ne_true]
    have hsz:r<=p.size:=by rw [hp.size]; omega
    have all:∀ a b,0<=a->a < r->0<=b->b < r->lt (p.getD a 0) (p.getD b 0)=false:=fun a b _ ha _ hb =>
     L.tr (L.tr (q3 b (r - 1) (by omega) (by omega)) c) (q3 0 a (by omega) ha)
    have ev:=rev_eqv L (i:=0) hsz all
    refine descPart_ok L (by omega) (rev_pm hp) (by omega) fun i j hij hj=>?_
    by_cases hjr:j < r
    ·exact Eqv.r L (ev i) (Eqv.l L (ev j) (all i j (Nat.zero_le _) (by omega) (Nat.zero_le _) hjr))
    ·have:j=r:=by omega
     subst this
     by_cases hi:i=j
     ·subst hi; exact L.refl _
     ·have em:(kas_rev p 0 j).getD j 0=p.getD j 0:=by rw [rev_get L hsz,if_neg (by omega)]
      rw [em]
      refine Eqv.r L (ev i) ?_
      exact L.tr (L.as hc) (all i (j - 1) (Nat.zero_le _) (by omega) (Nat.zero_le _) (by omega))
  ·have hr1:r=1:=by omega
   subst hr1
   refine descPart_ok L (by omega) hp (by omega) fun i j hij hj=>?_
   by_cases hi:i=j
   ·subst hi; exact L.refl _
   ·have h0:i=0:=by omega
    have h1:j=1:=by omega
    subst h0 h1
    exact L.as hc
theorem place_ok (h1:1<=n) {p:Array Nat} {k:Nat} (hp:Pm n p) (hs:Sd lt p k) (hk:k < n):∀ (f l r:Nat),l<=r->r<=k->r - l<=f->(∀ i,i < l->lt (p.getD k 0) (p.getD i 0)=false)->(∀ i,r<=i->i < k->lt (p.getD k 0) (p.getD i 0)=true) →
  (kas_place p k f l r).kgo n lt fun m=>m<=k/\(∀ i,i < m->lt (p.getD k 0) (p.getD i 0)=false)/\∀ i,m<=i->i < k->lt (p.getD k 0) (p.getD i 0)=true
 | 0,l,r,hlr,hrk,hf,ha,hb=>⟨by omega,ha,fun i hi hik=>hb i (by omega) hik⟩
 | f + 1,l,r,hlr,hrk,hf,ha,hb=>by
  unfold kas_place
  by_cases h:l ≥ r
  ·rw [if_pos h]; exact ⟨by omega,ha,fun i hi hik=>hb i (by omega) hik⟩
  ·rw [if_neg h]
   refine ⟨hp.bd h1 _,hp.bd h1 _,?_⟩
   cases c:lt (p.getD k 0) (p.getD ((l + r) / 2) 0) with
   | true =>
    dsimp only
    rw [if_pos rfl]
    refine place_ok h1 hp hs hk f l ((l + r) / 2) (by omega) (by omega) (by omega) ha fun i hi hik=>?_
    cases d:lt (p.getD k 0) (p.getD i 0) with
    | true=>rfl
    | false =>
     have:=L.tr (hs ((l + r) / 2) i hi hik) d
     rw [c] at this; cases this
   | false =>
    dsimp only
    rw [if_neg Bool.false_ne_true]
    refine place_ok h1 hp hs hk f ((l + r) / 2 + 1) r (by omega) (by omega) (by omega) (fun i hi=>?_) hb
    exact L.tr (hs i ((l + r) / 2) (by omega) (by omega)) c
theorem bin_ok (h1:1<=n):∀ (f:Nat) (p:Array Nat) (k:Nat),Pm n p->Sd lt p k->k + f=n->1<=k->(kas_bin f p k).kgo n lt fun q=>Pm n q/\Sd lt q n
 | 0,p,k,hp,hs,hk,_=>⟨hp,by rw [<-hk]; exact hs⟩
 | f + 1,p,k,hp,hs,hk,hk1=>by
  unfold kas_bin
  refine kgo_bind (kgo_mono (?_) (place_ok L h1 hp hs (by omega) k 0 k (Nat.zero_le _) (Nat.le_refl _) (by omega) (fun i hi=>absurd hi (Nat.not_lt_zero _)) fun i hi hik=>absurd (Nat.lt_of_lt_of_le hik hi) (Nat.lt_irrefl _)))
  rintro l ⟨hl,ha,hb⟩
  have hb':∀ i,(bubble p k (k - l)).getD i 0=if i=l then p.getD k 0 else if l < i/\i<=k then p.getD (i - 1) 0 else p.getD i 0:=fun i=>by
   have:=getElem?_bubble (xs:=p) (src:=k) (by rw [hp.size]; omega) (k - l) (by omega) i
   rw [show k - (k - l)=l by omega] at this
   rw [Array.getD_eq_getD_getElem?,this]
   repeat' split
   all_goals rw [Array.getD_eq_getD_getElem?]
  refine bin_ok h1 f _ (k + 1) ((bubble_perm p k _).trans hp) (fun i j hij hj=>?_) (by omega) (by omega)
  rw [hb',hb']
  by_cases hj1:j=l
  ·subst hj1
   rw [if_pos rfl]
   by_cases hi1:i=j
   ·subst hi1; rw [if_pos rfl]; exact L.refl _
   ·rw [if_neg hi1,if_neg (by omega)]
    exact ha i (by omega)
  ·rw [if_neg hj1]
   by_cases hi1:i=l
   ·subst hi1
    rw [if_pos rfl,if_pos (by omega)]
    exact L.as (hb (j - 1) (by omega) (by omega))
   ·rw [if_neg hi1]
    by_cases hj2:l < j/\j<=k
    ·rw [if_pos hj2]
     by_cases hi2:l < i/\i<=k
     ·rw [if_pos hi2]; exact hs _ _ (by omega) (by omega)
     ·rw [if_neg hi2]; exact hs _ _ (by omega) (by omega)
    ·rw [if_neg hj2,if_neg (by omega)]
     exact hs _ _ hij (by omega)
theorem sort_ok (h2:2<=n):(kas_sort n).kgo n lt fun q=>Pm n q/\Sd lt q n:=by
 unfold kas_sort
 refine kgo_bind (kgo_mono (?_) (count_ok L h2 (Array.Perm.refl _)))
 rintro r ⟨q1,q2,q3,q4⟩
 split
 ·rename_i h
  have e:max r.1 1=r.1:=by omega
  rw [e]
  exact bin_ok L (by omega) _ _ _ q1 q4 (by omega) q2
 ·have:r.1=n:=by omega
  exact ⟨q1,by rw [this] at q4; exact q4⟩
end
end M

set_option Elab.async false
set_option linter.all false
set_option maxRecDepth 100000
set_option maxHeartbeats 1000000
namespace M
open PySem PyProof.Rows
structure LtK (lt:Keyed->Keyed->Bool):Prop where
 irr:∀ a,lt a a=false
 tr:∀ {a b c},lt b a=false->lt c b=false->lt c a=false
 as:∀ {a b},lt a b=true->lt b a=false
noncomputable def AnsK (prog:Program) (w:World) (A:Around) (s:Shared) (κ:SortKind) (lt:Keyed->Keyed->Bool) (S:Keyed->Prop):Prop :=
 ∀ (x y:Keyed) (Q:Bool->Shared->Prop),S x->S y->Q (lt x y) s->wpAny (model prog w) A (keyLt' κ x.1 y.1) Q (fun _ _=>False) s
noncomputable def gallop':Bool->Keyed->Array Keyed->Nat->Nat->Nat->StateT SortSt Sem (Option Nat):=sortPriv% PySem.Builtin.gallop
noncomputable def mergeLo':Array Keyed->Array Keyed->StateT SortSt Sem (Array Keyed):=sortPriv% PySem.Builtin.mergeLo
noncomputable def mergeHi':Array Keyed->Array Keyed->StateT SortSt Sem (Array Keyed):=sortPriv% PySem.Builtin.mergeHi
section
variable {prog:Program} {w:World} {A:Around} {E:Value->Shared->Prop} {s:Shared} {lt:Keyed->Keyed->Bool} {κ:SortKind} {S:Keyed->Prop}
theorem ltk_ok {st:SortSt} {x y:Keyed} {Q:Option Bool->SortSt->Prop} (h:AnsK prog w A s κ lt S) (hk:kindOf st=κ) (hx:S x) (hy:S y) (q:Q (some (lt x y)) st):wpS (model prog w) A E s (lt' x y) Q st:=by
 rw [lt'_eq]
 refine wpS_bind (wpS_get ?_)
 rw [hk]
 exact wpS_bind (wpS_lift (wpAny_attempt (wpAny_mono (h x y (fun b s'=>s'=s/\b=lt x y) hx hy ⟨rfl,rfl⟩) (fun c s' hc=>by obtain ⟨rfl,rfl⟩:=hc; exact ⟨rfl,wpS_pure q⟩) fun _ _ hF=>hF.elim)))
theorem elem_ok {st:SortSt} {arr:Array Keyed} {i:Nat} {x:Keyed} {Q:Keyed->SortSt->Prop} (h:arr[i]?=some x) (q:Q x st):wpS (model prog w) A E s (elem' arr i) Q st:=by
 rw [elem'_eq,h]
 exact wpS_pure q
noncomputable def bey (lt:Keyed->Keyed->Bool) (left:Bool) (key x:Keyed):Bool:=if left=true then lt x key else !lt key x
theorem ask_ok {st:SortSt} {arr:Array Keyed} {i:Nat} {left:Bool} {key x:Keyed} {Q:Option Bool->SortSt->Prop} (h:AnsK prog w A s κ lt S) (hk:kindOf st=κ) (hy:S key) (e:arr[i]?=some x) (hx:S x) (q:Q (some (bey lt left key x)) st) :
  wpS (model prog w) A E s (elem' arr i >>= fun z=>if left=true then lt' z key else lt' key z >>= fun c=>pure (c.map fun x=>!x)) Q st:=by
 refine wpS_bind (elem_ok e ?_)
 unfold bey at q
 cases left with
 | true=>rw [if_pos rfl] at q ⊢; exact ltk_ok h hk hx hy q
 | false=>rw [if_neg (by simp)] at q ⊢; exact wpS_bind (ltk_ok h hk hy hx (wpS_pure q))
theorem gallop_ok {st:SortSt} {arr:Array Keyed} {left:Bool} {key:Keyed} {base n hint:Nat} {B:Nat->Bool} {Q:Option Nat->SortSt->Prop} (h:AnsK prog w A s κ lt S) (hk:kindOf st=κ) (hy:S key) (hh:hint < n)
  (hB:∀ i,i < n->∃ x,arr[base + i]?=some x/\S x/\bey lt left key x=B i) (mono:∀ i j,i<=j->j < n->B j=true->B i=true)
  (q:∀ k,k<=n->(∀ i,i < k->B i=true)->(∀ i,k<=i->i < n->B i=false)->Q (some k) st):wpS (model prog w) A E s (gallop' left key arr base n hint) Q st:=by
 have ask:∀ i,i < n->∀ {R:Option Bool->SortSt->Prop},R (some (B i)) st->wpS (model prog w) A E s (elem' arr (base + i) >>= fun z=>if left=true then lt' z key else lt' key z >>= fun c=>pure (c.map fun x=>!x)) R st:=fun i hi R hR=>by
  obtain ⟨x,e,hx,eb⟩:=hB i hi
  exact ask_ok h hk hy e hx (by rw [eb]; exact hR)
 have monoF:∀ i j,i<=j->j < n->B i=false->B j=false:=fun i j hij hj hf=>by
  cases hb:B j with
  | false=>rfl
  | true=>rw [mono i j hij hj hb] at hf; cases hf
 -- the second loop
 have second:∀ lo hi,lo<=hi->hi<=n->(∀ i,i < lo->B i=true)->(∀ i,hi<=i->i < n->B i=false)->wpS (model prog w) A E s (forIn [:n] ((none,lo,hi):Option (Option Nat) × Nat × Nat) fun x z =>
   if z.2.1 ≥ z.2.2 then pure (ForInStep.done (none,z.2.1,z.2.2))
   else (elem' arr (base + (z.2.1 + (z.2.2 - z.2.1) / 2)) >>= fun v=>if left=true then lt' v key else lt' key v >>= fun c=>pure (c.map fun x=>!x)) >>= fun y=>match y with
    | some more=>if more=true then pure (ForInStep.yield (none,z.2.1 + (z.2.2 - z.2.1) / 2 + 1,z.2.2)) else pure (ForInStep.yield (none,z.2.1,z.2.1 + (z.2.2 - z.2.1) / 2))
    | _=>pure (ForInStep.done (some none,z.2.1,z.2.2)))
   (fun c st'=>∃ l,∃ k,c=(none,l,k)/\st'=st/\k<=n/\(∀ i,i < k->B i=true)/\(∀ i,k<=i->i < n->B i=false)) st:=by
  intro lo hi hlh hhn hlo hhi
  refine wpS_forRange (I:=fun x c st'=>st'=st/\∃ l k,c=(none,l,k)/\l<=k/\k<=n/\k - l<=n - x/\(∀ i,i < l->B i=true)/\(∀ i,k<=i->i < n->B i=false)) ?_ ?_ ⟨rfl,lo,hi,rfl,hlh,hhn,by omega,hlo,hhi⟩
  ·rintro x c st' _ hx ⟨rfl,l,k,rfl,h1,h2,h3,h4,h5⟩
   dsimp only
   by_cases hge:l ≥ k
   ·rw [if_pos hge]
    obtain rfl:l=k:=by omega
    exact wpS_pure ⟨l,l,rfl,rfl,h2,h4,h5⟩
   ·rw [if_neg hge]
    refine wpS_bind (ask _ (by omega) ?_)
    cases hb:B (l + (k - l) / 2) with
    | true=>exact wpS_pure ⟨rfl,_,_,rfl,by omega,h2,by omega,fun i hi=>mono i _ (by omega) (by omega) hb,h5⟩
    | false=>exact wpS_pure ⟨rfl,_,_,rfl,by omega,by omega,by omega,h4,fun i h6 h7=>monoF _ i h6 h7 hb⟩
  ·rintro c st' ⟨rfl,l,k,rfl,h1,h2,h3,h4,h5⟩
   obtain rfl:l=k:=by omega
   exact ⟨l,l,rfl,rfl,h2,h4,h5⟩
 refine wpS_bind (ask hint hh ?_)
 cases hb:B hint with
 | true =>
  refine wpS_bind (wpS_mono (wpS_forRange (I:=fun x c st'=>st'=st/\∃ l o,c=(none,l,o)/\x + 1<=o/\l < o/\hint + l < n/\B (hint + l)=true)
   (Q:=fun c st'=>st'=st/\∃ l o,c=(none,l,o)/\l < o/\hint + l < n/\B (hint + l)=true/\(o ≥ n - hint\/B (hint + o)=false)) ?_ ?_ ⟨rfl,0,1,rfl,by omega,by omega,by omega,hb⟩) ?_)
  ·rintro x c st' _ hx ⟨rfl,l,o,rfl,h1,h2,h3,h4⟩
   dsimp only
   by_cases hge:o ≥ n - hint
   ·rw [if_pos hge]
    exact wpS_pure ⟨rfl,l,o,rfl,h2,h3,h4,.inl hge⟩
   ·rw [if_neg hge]
    refine wpS_bind (ask _ (by omega) ?_)
    cases hm:B (hint + o) with
    | true=>exact wpS_pure ⟨rfl,o,2 * o + 1,rfl,by omega,by omega,by omega,hm⟩
    | false=>exact wpS_pure ⟨rfl,l,o,rfl,h2,h3,h4,.inr hm⟩
  ·rintro c st' ⟨rfl,l,o,rfl,h1,h2,h3,h4⟩
   exact ⟨rfl,l,o,rfl,h2,h3,h4,.inl (by omega)⟩
  ·rintro c st' ⟨rfl,l,o,rfl,h1,h2,h3,h4⟩
   refine wpS_bind (wpS_mono (second (hint + l + 1) (hint + min o (n - hint)) (by omega) (by omega) (fun i hi=>mono i _ (by omega) h2 h3) fun i hi hin=>?_) ?_)
   ·rcases h4 with h4 | h4
    ·omega
    ·exact monoF _ i (by omega) hin h4
   ·rintro c st' ⟨l,k,rfl,rfl,a1,a2,a3⟩
    exact wpS_pure (q k a1 a2 a3)
 | false =>
  refine wpS_bind (wpS_mono (wpS_forRange (I:=fun x c st'=>st'=st/\∃ l o,c=(none,l,o)/\x + 1<=o/\l < o/\l<=hint/\B (hint - l)=false)
   (Q:=fun c st'=>st'=st/\∃ l o,c=(none,l,o)/\l < o/\l<=hint/\B (hint - l)=false/\(o ≥ hint + 1\/B (hint - o)=true)) ?_ ?_ ⟨rfl,0,1,rfl,by omega,by omega,by omega,hb⟩) ?_)
  ·rintro x c st' _ hx ⟨rfl,l,o,rfl,h1,h2,h3,h4⟩
   dsimp only
   by_cases hge:o ≥ hint + 1
   ·rw [if_pos hge]
    exact wpS_pure ⟨rfl,l,o,rfl,h2,h3,h4,.inl hge⟩
   ·rw [if_neg hge]
    refine wpS_bind (ask _ (by omega) ?_)
    cases hm:B (hint - o) with
    | true=>exact wpS_pure ⟨rfl,l,o,rfl,h2,h3,h4,.inr hm⟩
    | false=>exact wpS_pure ⟨rfl,o,2 * o + 1,rfl,by omega,by omega,by omega,hm⟩
  ·rintro c st' ⟨rfl,l,o,rfl,h1,h2,h3,h4⟩
   exact ⟨rfl,l,o,rfl,h2,h3,h4,.inl (by omega)⟩
  ·rintro c st' ⟨rfl,l,o,rfl,h1,h2,h3,h4⟩
   refine wpS_bind (wpS_mono (second (hint + 1 - min o (hint + 1)) (hint - l) (by omega) (by omega) (fun i hi=>?_) fun i hi hin=>monoF _ i hi hin h3) ?_)
   ·rcases h4 with h4 | h4
    ·omega
    ·exact mono i _ (by omega) (by omega) h4
   ·rintro c st' ⟨l,k,rfl,rfl,a1,a2,a3⟩
    exact wpS_pure (q k a1 a2 a3)
end
noncomputable def SrtL (lt:Keyed->Keyed->Bool) (l:List Keyed):Prop:=l.Pairwise fun x y=>lt y x=false
noncomputable def Fine (lt:Keyed->Keyed->Bool) (a b out:Array Keyed):Prop:=SrtL lt out.toList/\out.toList.Perm (a.toList++b.toList)
structure MI (lt:Keyed->Keyed->Bool) (a b out:Array Keyed) (i j:Nat):Prop where
 asc:SrtL lt out.toList
 low:∀ x ∈ out.toList,∀ y,y ∈ a.toList.drop i\/y ∈ b.toList.drop j->lt y x=false
 prm:(out.toList++(a.toList.drop i++b.toList.drop j)).Perm (a.toList++b.toList)
section
variable {lt:Keyed->Keyed->Bool} {a b out:Array Keyed} {i j:Nat}
theorem head_le (L:LtK lt) {x y:Keyed} {l:List Keyed} (h:SrtL lt (x :: l)) (e:lt x y=false):∀ z ∈ x :: l,lt z y=false:=fun z hz=>by
 rcases List.mem_cons.mp hz with rfl | hz
 ·exact e
 ·exact L.tr e ((List.pairwise_cons.mp h).1 z hz)
theorem drop_at {arr:Array Keyed} {i:Nat} {x:Keyed} (h:arr[i]?=some x):arr.toList.drop i=x :: arr.toList.drop (i + 1):=by
 obtain ⟨hi,rfl⟩:=Array.getElem?_eq_some_iff.mp h
 rw [List.drop_eq_getElem_cons (by simpa using hi)]
 simp
theorem srt_drop {arr:Array Keyed} (h:SrtL lt arr.toList) (i:Nat):SrtL lt (arr.toList.drop i):=List.Pairwise.sublist (List.drop_sublist i _) h
theorem srt_at (L:LtK lt) {arr:Array Keyed} (h:SrtL lt arr.toList) {i j:Nat} {x y:Keyed} (hij:i<=j) (hx:arr[i]?=some x) (hy:arr[j]?=some y):lt y x=false:=by
 by_cases e:i=j
 ·subst e; rw [hx] at hy; cases hy; exact L.irr _
 ·obtain ⟨hi,rfl⟩:=Array.getElem?_eq_some_iff.mp hx
  obtain ⟨hj,rfl⟩:=Array.getElem?_eq_some_iff.mp hy
  have:=List.pairwise_iff_getElem.mp h i j (by simpa using hi) (by simpa using hj) (by omega)
  simpa using this
theorem MI.pushB (I:MI lt a b out i j) (hb:SrtL lt b.toList) {y:Keyed} (e:b[j]?=some y) (h:∀ z ∈ a.toList.drop i,lt z y=false):MI lt a b (out.push y) i (j + 1):=by
 have d:=drop_at e
 have sb:=srt_drop hb j
 rw [d] at sb
 refine ⟨?_,fun x hx z hz=>?_,?_⟩
 ·rw [Array.toList_push]
  refine List.pairwise_append.mpr ⟨I.asc,List.pairwise_singleton ..,fun x hx z hz=>?_⟩
  cases List.mem_singleton.mp hz
  exact I.low x hx _ (.inr (by rw [d]; exact List.mem_cons_self))
 ·rw [Array.toList_push] at hx
  rcases List.mem_append.mp hx with hx | hx
  ·exact I.low x hx z (hz.imp id fun q=>by rw [d]; exact List.mem_cons_of_mem _ q)
  ·cases List.mem_singleton.mp hx
   rcases hz with hz | hz
   ·exact h z hz
   ·exact (List.pairwise_cons.mp sb).1 z hz
 ·refine List.Perm.trans ?_ I.prm
  rw [Array.toList_push,d,List.append_assoc]
  refine List.Perm.append_left _ ?_
  show (y :: (List.drop i a.toList++List.drop (j + 1) b.toList)).Perm _
  exact List.perm_middle.symm
theorem MI.pushA (I:MI lt a b out i j) (ha:SrtL lt a.toList) {y:Keyed} (e:a[i]?=some y) (h:∀ z ∈ b.toList.drop j,lt z y=false):MI lt a b (out.push y) (i + 1) j:=by
 have d:=drop_at e
 have sa:=srt_drop ha i
 rw [d] at sa
 refine ⟨?_,fun x hx z hz=>?_,?_⟩
 ·rw [Array.toList_push]
  refine List.pairwise_append.mpr ⟨I.asc,List.pairwise_singleton ..,fun x hx z hz=>?_⟩
  cases List.mem_singleton.mp hz
  exact I.low x hx _ (.inl (by rw [d]; exact List.mem_cons_self))
 ·rw [Array.toList_push] at hx
  rcases List.mem_append.mp hx with hx | hx
  ·exact I.low x hx z (hz.imp (fun q=>by rw [d]; exact List.mem_cons_of_mem _ q) id)
  ·cases List.mem_singleton.mp hx
   rcases hz with hz | hz
   ·exact (List.pairwise_cons.mp sa).1 z hz
   ·exact h z hz
 ·refine List.Perm.trans ?_ I.prm
  rw [Array.toList_push,d,List.append_assoc]
  exact List.Perm.refl _
theorem ext_push {arr:Array Keyed} {i k:Nat} (h:i + k < arr.size):arr.extract i (i + (k + 1))=(arr.extract i (i + k)).push arr[i + k]:=by
 rw [Array.push_extract_getElem h,Nat.min_eq_left (Nat.le_add_right i k)]
 rfl
theorem ext_nil (arr:Array Keyed) (i:Nat):arr.extract i (i + 0)=#[]:=Array.toList_inj.mp (by rw [Array.toList_extract]; simp)
theorem MI.runA (I:MI lt a b out i j) (ha:SrtL lt a.toList):∀ (k:Nat),i + k<=a.size->(∀ m,m < k->∀ y,a[i + m]?=some y->∀ z ∈ b.toList.drop j,lt z y=false)->MI lt a b (out++a.extract i (i + k)) (i + k) j
 | 0,_,_=>by rw [ext_nil,Array.append_empty]; exact I
 | k + 1,hk,h=>by
  have r:=(I.runA ha k (by omega) fun m hm=>h m (by omega)).pushA ha (y:=a[i + k]) (Array.getElem?_eq_getElem (by omega)) (h k (by omega) _ (Array.getElem?_eq_getElem (by omega)))
  rw [ext_push (by omega),Array.append_push]
  exact r
theorem MI.runB (I:MI lt a b out i j) (hb:SrtL lt b.toList):∀ (k:Nat),j + k<=b.size->(∀ m,m < k->∀ y,b[j + m]?=some y->∀ z ∈ a.toList.drop i,lt z y=false)->MI lt a b (out++b.extract j (j + k)) i (j + k)
 | 0,_,_=>by rw [ext_nil,Array.append_empty]; exact I
 | k + 1,hk,h=>by
  have r:=(I.runB hb k (by omega) fun m hm=>h m (by omega)).pushB hb (y:=b[j + k]) (Array.getElem?_eq_getElem (by omega)) (h k (by omega) _ (Array.getElem?_eq_getElem (by omega)))
  rw [ext_push (by omega),Array.append_push]
  exact r
theorem ext_drop (arr:Array Keyed) (i:Nat):(arr.extract i arr.size).toList=arr.toList.drop i:=by
 rw [Array.toList_extract,List.extract_eq_take_drop]
 exact List.take_of_length_le (by simp)
theorem MI.done (I:MI lt a b out i j) (ha:SrtL lt a.toList) (hb:SrtL lt b.toList) (h:a.size<=i\/b.size<=j):Fine lt a b (out++a.extract i a.size++b.extract j b.size):=by
 unfold Fine
 rw [Array.toList_append,Array.toList_append,ext_drop,ext_drop,List.append_assoc]
 refine ⟨List.pairwise_append.mpr ⟨I.asc,List.pairwise_append.mpr ⟨srt_drop ha i,srt_drop hb j,fun x hx y hy=>?_⟩,fun x hx y hy=>I.low x hx y (List.mem_append.mp hy)⟩,I.prm⟩
 rcases h with h | h
 ·rw [List.drop_of_length_le (by simpa using h)] at hx; cases hx
 ·rw [List.drop_of_length_le (by simpa using h)] at hy; cases hy
theorem MI.lastA (I:MI lt a b out i j) (ha:SrtL lt a.toList) (hb:SrtL lt b.toList) (hl:∀ x ∈ a.toList.drop (a.size - 1),∀ y ∈ b.toList,lt x y=false) (h:i + 1=a.size):Fine lt a b (out++b.extract j b.size++a.extract i a.size):=by
 unfold Fine
 rw [Array.toList_append,Array.toList_append,ext_drop,ext_drop,List.append_assoc]
 refine ⟨List.pairwise_append.mpr ⟨I.asc,List.pairwise_append.mpr ⟨srt_drop hb j,srt_drop ha i,fun x hx y hy=>?_⟩,fun x hx y hy=>I.low x hx y (List.mem_append.mp hy).symm⟩,(List.Perm.append_left _ List.perm_append_comm).trans I.prm⟩
 exact hl y (by rwa [show a.size - 1=i by omega]) x (List.mem_of_mem_drop hx)
end
noncomputable abbrev stG (st:SortSt) (g:Nat):SortSt:=SortSt.mk' (kindOf st) (arrOf st) (pendingOf st) g (failedOf st)
noncomputable def Mid (lt:Keyed->Keyed->Bool) (a b o:Array Keyed) (i j:Nat):Prop:=MI lt a b o i j/\i + 1 < a.size/\j < b.size
section
variable {prog:Program} {w:World} {A:Around} {E:Value->Shared->Prop} {s:Shared} {lt:Keyed->Keyed->Bool} {κ:SortKind} {S:Keyed->Prop}
noncomputable abbrev LoT:Type:=Option (Array Keyed) × Array Keyed × Nat × Nat × Nat × Nat × Nat
noncomputable def segC (a b o:Array Keyed) (i j m p r:Nat):StateT SortSt Sem (ForInStep LoT) :=
 elem' a i >>= fun v=>if (i + 1 + 1 == a.size)=true then pure (.done (some (o.push v++b.extract j b.size++a.extract (i + 1) a.size),o.push v,i + 1,j,m,p,r))
  else if (decide (p < 7) && decide (r < 7))=true then pure (.done (none,o.push v,i + 1,j,m,p,r)) else pure (.yield (none,o.push v,i + 1,j,m,p,r))
noncomputable def segB (a b o:Array Keyed) (i j m p r:Nat):StateT SortSt Sem (ForInStep LoT) :=
 elem' b j >>= fun y=>if (j + 1 == b.size)=true then pure (.done (some (o.push y++a.extract i a.size++b.extract (j + 1) b.size),o.push y,i,j + 1,m,p,r))
  else elem' a i >>= fun v=>gallop' true v b (j + 1) (b.size - (j + 1)) 0 >>= fun t=>match t with
   | some k=>if k > 0 then (if (j + 1 + k == b.size)=true then pure (.done (some (o.push y++b.extract (j + 1) (j + 1 + k)++a.extract i a.size++b.extract (j + 1 + k) b.size),o.push y++b.extract (j + 1) (j + 1 + k),i,j + 1 + k,m,p,k))
     else segC a b (o.push y++b.extract (j + 1) (j + 1 + k)) i (j + 1 + k) m p k) else segC a b (o.push y) i (j + 1) m p k
   | _=>pure (.done (some (o.push y++a.extract i a.size++b.extract (j + 1) b.size),o.push y,i,j + 1,m,p,r))
noncomputable def segA (a b o:Array Keyed) (i j m p r:Nat):StateT SortSt Sem (ForInStep LoT) :=
 elem' b j >>= fun y=>gallop' false y a i (a.size - i) 0 >>= fun t=>match t with
  | some k=>if k > 0 then (if (i + k + 1 == a.size)=true then pure (.done (some (o++a.extract i (i + k)++b.extract j b.size++a.extract (i + k) a.size),o++a.extract i (i + k),i + k,j,m,k,r))
    else if (i + k == a.size)=true then pure (.done (some (o++a.extract i (i + k)++a.extract (i + k) a.size++b.extract j b.size),o++a.extract i (i + k),i + k,j,m,k,r))
    else segB a b (o++a.extract i (i + k)) (i + k) j m k r) else segB a b o i j m k r
  | _=>pure (.done (some (o++a.extract i a.size++b.extract j b.size),o,i,j,m,p,r))
structure MCx (prog:Program) (w:World) (A:Around) (s:Shared) (κ:SortKind) (lt:Keyed->Keyed->Bool) (S:Keyed->Prop) (a b:Array Keyed):Prop where
 L:LtK lt
 h:AnsK prog w A s κ lt S
 ga:∀ i,i < a.size->∃ x,a[i]?=some x/\S x
 gb:∀ i,i < b.size->∃ x,b[i]?=some x/\S x
 ha:SrtL lt a.toList
 hb:SrtL lt b.toList
structure LoP (lt:Keyed->Keyed->Bool) (a b:Array Keyed) (n:Nat) (st:SortSt) (P:ForInStep LoT->SortSt->Prop):Prop where
 r:∀ r z,Fine lt a b r->P (.done (some r,z)) st
 d:∀ o i j z,Mid lt a b o i j->n<=i + j->P (.done (none,o,i,j,z)) st
 y:∀ o i j z,Mid lt a b o i j->n<=i + j->P (.yield (none,o,i,j,z)) st
variable {a b o:Array Keyed} {i j m p r n:Nat} {st:SortSt} {P:ForInStep LoT->SortSt->Prop}
theorem segC_ok (X:MCx prog w A s κ lt S a b) (hl:∀ x ∈ a.toList.drop (a.size - 1),∀ y ∈ b.toList,lt x y=false) (pP:LoP lt a b n st P) (I:MI lt a b o i j) (h1:i + 1 < a.size) (h2:j < b.size) (hn:n<=i + j) {v:Keyed} (ev:a[i]?=some v) (Z:∀ z ∈ b.toList.drop j,lt z v=false) :
  wpS (model prog w) A E s (segC a b o i j m p r) P st:=by
 unfold segC
 refine wpS_bind (elem_ok ev ?_)
 have I6:=I.pushA X.ha ev Z
 by_cases d2:(i + 1 + 1 == a.size)=true
 ·rw [if_pos d2]; exact wpS_pure (pP.r _ _ (I6.lastA X.ha X.hb hl (by simpa using d2)))
 rw [if_neg d2]
 have d2':¬ i + 1 + 1=a.size:=by simpa using d2
 split
 ·exact wpS_pure (pP.d _ _ _ _ ⟨I6,by omega,h2⟩ (by omega))
 ·exact wpS_pure (pP.y _ _ _ _ ⟨I6,by omega,h2⟩ (by omega))
theorem segB_ok (X:MCx prog w A s κ lt S a b) (hk:kindOf st=κ) (hl:∀ x ∈ a.toList.drop (a.size - 1),∀ y ∈ b.toList,lt x y=false) (pP:LoP lt a b n st P) (I:MI lt a b o i j) (h1:i + 1 < a.size) (h2:j < b.size) (hn:n<=i + j) {y:Keyed} (ey:b[j]?=some y) (Z:∀ z ∈ a.toList.drop i,lt z y=false) :
  wpS (model prog w) A E s (segB a b o i j m p r) P st:=by
 unfold segB
 refine wpS_bind (elem_ok ey ?_)
 have I4:=I.pushB X.hb ey Z
 by_cases d1:(j + 1 == b.size)=true
 ·rw [if_pos d1]; exact wpS_pure (pP.r _ _ (I4.done X.ha X.hb (.inr (by simp at d1; omega))))
 rw [if_neg d1]
 have d1':¬ j + 1=b.size:=by simpa using d1
 obtain ⟨v,ev,sv⟩:=X.ga i (by omega)
 have dA:=drop_at ev
 have pA:=srt_drop X.ha i
 rw [dA] at pA
 refine wpS_bind (elem_ok ev (wpS_bind ?_))
 refine gallop_ok (B:=fun n=>lt (b[j + 1 + n]?.getD default) v) X.h hk sv (by omega) (fun n hn=>?_) (fun n n' hii hi' hB=>?_) fun k hk1 hk2 hk3=>?_
 ·obtain ⟨x,ex,sx⟩:=X.gb (j + 1 + n) (by omega)
  refine ⟨x,ex,sx,?_⟩
  simp only [ex]; rfl
 ·obtain ⟨x,ex,sx⟩:=X.gb (j + 1 + n) (by omega)
  obtain ⟨x',ex',sx'⟩:=X.gb (j + 1 + n') (by omega)
  simp only [ex,ex',Option.getD_some] at hB ⊢
  cases hx:lt x v with
  | true=>rfl
  | false=>rw [X.L.tr hx (srt_at X.L X.hb (by omega) ex ex')] at hB; cases hB
 have I5:MI lt a b (o.push y++b.extract (j + 1) (j + 1 + k)) i (j + 1 + k):=I4.runB X.hb k (by omega) fun m hm z hz u hu=>by
  have:=hk2 m hm
  simp only [hz,Option.getD_some] at this
  rw [dA] at hu
  exact head_le X.L pA (X.L.as this) u hu
 have Z5:∀ z ∈ b.toList.drop (j + 1 + k),lt z v=false:=fun z hz=>by
  obtain ⟨n,hn,rfl⟩:=List.getElem_of_mem hz
  rw [List.length_drop,Array.length_toList] at hn
  have:=hk3 (k + n) (by omega) (by omega)
  rw [Array.getElem?_eq_getElem (show j + 1 + (k + n) < b.size by omega)] at this
  simp only [Option.getD_some] at this
  rw [List.getElem_drop]
  simp only [Nat.add_assoc,Array.getElem_toList] at this ⊢
  exact this
 dsimp only
 by_cases hk0:k > 0
 ·rw [if_pos hk0]
  by_cases c1:(j + 1 + k == b.size)=true
  ·rw [if_pos c1]; exact wpS_pure (pP.r _ _ (I5.done X.ha X.hb (.inr (by simp at c1; omega))))
  ·rw [if_neg c1]
   have c1':¬ j + 1 + k=b.size:=by simpa using c1
   exact segC_ok X hl pP I5 h1 (by omega) (by omega) ev Z5
 ·rw [if_neg hk0]
  obtain rfl:k=0:=by omega
  exact segC_ok X hl pP I4 h1 (by omega) (by omega) ev Z5
theorem segA_ok (X:MCx prog w A s κ lt S a b) (hk:kindOf st=κ) (hl:∀ x ∈ a.toList.drop (a.size - 1),∀ y ∈ b.toList,lt x y=false) (pP:LoP lt a b n st P) (I:MI lt a b o i j) (h1:i + 1 < a.size) (h2:j < b.size) (hn:n<=i + j) :
  wpS (model prog w) A E s (segA a b o i j m p r) P st:=by
 unfold segA
 obtain ⟨y,ey,sy⟩:=X.gb j h2
 have dB:=drop_at ey
 have pB:=srt_drop X.hb j
 rw [dB] at pB
 refine wpS_bind (elem_ok ey (wpS_bind ?_))
 refine gallop_ok (B:=fun n=>!lt y (a[i + n]?.getD default)) X.h hk sy (by omega) (fun n hn=>?_) (fun n n' hii hi' hB=>?_) fun k hk1 hk2 hk3=>?_
 ·obtain ⟨x,ex,sx⟩:=X.ga (i + n) (by omega)
  refine ⟨x,ex,sx,?_⟩
  simp only [ex]; rfl
 ·obtain ⟨x,ex,sx⟩:=X.ga (i + n) (by omega)
  obtain ⟨x',ex',sx'⟩:=X.ga (i + n') (by omega)
  simp only [ex,ex',Option.getD_some,Bool.not_eq_true'] at hB ⊢
  exact X.L.tr (srt_at X.L X.ha (by omega) ex ex') hB
 have I3:MI lt a b (o++a.extract i (i + k)) (i + k) j:=I.runA X.ha k (by omega) fun m hm z hz v hv=>by
  have:=hk2 m hm
  simp only [hz,Option.getD_some,Bool.not_eq_true'] at this
  rw [dB] at hv
  exact head_le X.L pB this v hv
 have Z3:∀ z ∈ a.toList.drop (i + k),lt z y=false:=fun z hz=>by
  obtain ⟨n,hn,rfl⟩:=List.getElem_of_mem hz
  rw [List.length_drop,Array.length_toList] at hn
  have:=hk3 (k + n) (by omega) (by omega)
  rw [Array.getElem?_eq_getElem (show i + (k + n) < a.size by omega)] at this
  simp only [Option.getD_some,Bool.not_eq_false'] at this
  rw [List.getElem_drop]
  simp only [Nat.add_assoc,Array.getElem_toList]
  exact X.L.as this
 dsimp only
 by_cases hk0:k > 0
 ·rw [if_pos hk0]
  by_cases c1:(i + k + 1 == a.size)=true
  ·rw [if_pos c1]; exact wpS_pure (pP.r _ _ (I3.lastA X.ha X.hb hl (by simpa using c1)))
  rw [if_neg c1]
  have c1':¬ i + k + 1=a.size:=by simpa using c1
  by_cases c2:(i + k == a.size)=true
  ·rw [if_pos c2]; exact wpS_pure (pP.r _ _ (I3.done X.ha X.hb (.inl (by simp at c2; omega))))
  rw [if_neg c2]
  have c2':¬ i + k=a.size:=by simpa using c2
  exact segB_ok X hk hl pP I3 (by omega) h2 (by omega) ey Z3
 ·rw [if_neg hk0]
  obtain rfl:k=0:=by omega
  exact segB_ok X hk hl pP I h1 h2 (by omega) ey Z3
theorem mergeLo_ok {st:SortSt} {a b:Array Keyed} {Q:Array Keyed->SortSt->Prop} (L:LtK lt) (h:AnsK prog w A s κ lt S) (hk:kindOf st=κ) (sa:∀ x ∈ a.toList,S x) (sb:∀ x ∈ b.toList,S x) (ha:SrtL lt a.toList) (hb:SrtL lt b.toList)
  (a0:0 < a.size) (b0:0 < b.size) (hf:∀ x y,a[0]?=some x->b[0]?=some y->lt y x=true) (hl:∀ x ∈ a.toList.drop (a.size - 1),∀ y ∈ b.toList,lt x y=false)
  (q:∀ g out,Fine lt a b out->Q out (stG st g)):wpS (model prog w) A E s (mergeLo' a b) Q st:=by
 have ga:∀ i,i < a.size->∃ x,a[i]?=some x/\S x:=fun i hi=>⟨a[i],Array.getElem?_eq_getElem hi,sa _ (by simp)⟩
 have gb:∀ i,i < b.size->∃ x,b[i]?=some x/\S x:=fun i hi=>⟨b[i],Array.getElem?_eq_getElem hi,sb _ (by simp)⟩
 have X:MCx prog w A s κ lt S a b:=⟨L,h,ga,gb,ha,hb⟩
 refine wpS_bind (wpS_lift (wpAny_rule ⟨rfl,?_⟩))
 obtain ⟨x0,ex0,_⟩:=ga 0 a0
 obtain ⟨y0,ey0,_⟩:=gb 0 b0
 refine wpS_bind (elem_ok ey0 ?_)
 have I0:MI lt a b #[y0] 0 1:=by
  have I:MI lt a b #[] 0 0:=⟨List.Pairwise.nil,fun x hx=>by simp at hx,by simp⟩
  refine I.pushB hb ey0 fun z hz=>?_
  have d:=drop_at ex0
  have sd:=srt_drop ha 0
  rw [d] at sd hz
  exact head_le L sd (L.as (hf _ _ ex0 ey0)) z hz
 dsimp only
 by_cases e1:(1 == b.size)=true
 ·rw [if_pos e1]
  exact wpS_pure (q _ _ (I0.done ha hb (.inr (by simp at e1; omega))))
 rw [if_neg e1]
 by_cases e2:(0 + 1 == a.size)=true
 ·rw [if_pos e2]
  exact wpS_pure (q _ _ (I0.lastA ha hb hl (by simpa using e2)))
 rw [if_neg e2]
 have hb1:1 < b.size:=by
  have:¬ 1=b.size:=by simpa using e1
  omega
 have ha1:0 + 1 < a.size:=by
  have:¬ 0 + 1=a.size:=by simpa using e2
  omega
 refine wpS_bind (wpS_get ?_)
 refine wpS_bind (wpS_mono (wpS_forRange (I:=fun x c st'=>∃ g o i j m,st'=stG st g/\c=(none,o,i,j,m)/\Mid lt a b o i j/\x<=i + j)
  (Q:=fun c st'=>∃ g r z,st'=stG st g/\c=(some r,z)/\Fine lt a b r) ?_ ?_ ⟨_,_,_,_,_,rfl,rfl,⟨I0,ha1,hb1⟩,by omega⟩) ?_)
 ·rintro x c st' _ hx ⟨g,o,i,j,m,rfl,rfl,hM,hc⟩
  dsimp only
  -- one by one
  refine wpS_bind (wpS_mono (wpS_forRange (I:=fun x c st'=>∃ o' i' j' ac bc,st'=stG st g/\c=(none,o',i',j',ac,bc)/\Mid lt a b o' i' j'/\i + j + x<=i' + j')
   (Q:=fun c st'=>st'=stG st g/\((∃ r z,c=(some r,z)/\Fine lt a b r)\/∃ o' i' j' ac bc,c=(none,o',i',j',ac,bc)/\Mid lt a b o' i' j'/\i + j + 1<=i' + j')) ?_ ?_ ⟨_,_,_,_,_,rfl,rfl,hM,by omega⟩) ?_)
  ·rintro x c st' _ hx ⟨o',i',j',ac,bc,rfl,rfl,⟨hI,h1,h2⟩,hc⟩
   dsimp only
   obtain ⟨y,ey,sy⟩:=gb j' h2
   obtain ⟨z,ez,sz⟩:=ga i' (by omega)
   refine wpS_bind (elem_ok ey (wpS_bind (elem_ok ez (wpS_bind (ltk_ok h hk sy sz ?_)))))
   have dA:=drop_at ez
   have dB:=drop_at ey
   have pA:=srt_drop ha i'
   have pB:=srt_drop hb j'
   rw [dA] at pA
   rw [dB] at pB
   cases hw:lt y z with
   | true =>
    have I':=hI.pushB hb ey (by rw [dA]; exact head_le L pA (L.as hw))
    refine wpS_bind (elem_ok ey ?_)
    (try dsimp only)
    by_cases c1:(j' + 1 == b.size)=true
    ·rw [if_pos c1]; exact wpS_pure ⟨rfl,.inl ⟨_,_,rfl,I'.done ha hb (.inr (by simp at c1; omega))⟩⟩
    ·rw [if_neg c1]
     have c1':¬ j' + 1=b.size:=by simpa using c1
     have hM':Mid lt a b (o'.push y) i' (j' + 1):=⟨I',h1,by omega⟩
     by_cases c2:bc + 1 ≥ m
     ·rw [if_pos c2]; exact wpS_pure ⟨rfl,.inr ⟨_,_,_,_,_,rfl,hM',by omega⟩⟩
     ·rw [if_neg c2]; exact wpS_pure ⟨_,_,_,_,_,rfl,rfl,hM',by omega⟩
   | false =>
    have I':=hI.pushA ha ez (by rw [dB]; exact head_le L pB hw)
    refine wpS_bind (elem_ok ez ?_)
    (try dsimp only)
    by_cases c1:(i' + 1 + 1 == a.size)=true
    ·rw [if_pos c1]; exact wpS_pure ⟨rfl,.inl ⟨_,_,rfl,I'.lastA ha hb hl (by simpa using c1)⟩⟩
    ·rw [if_neg c1]
     have c1':¬ i' + 1 + 1=a.size:=by simpa using c1
     have hM':Mid lt a b (o'.push z) (i' + 1) j':=⟨I',by omega,h2⟩
     by_cases c2:ac + 1 ≥ m
     ·rw [if_pos c2]; exact wpS_pure ⟨rfl,.inr ⟨_,_,_,_,_,rfl,hM',by omega⟩⟩
     ·rw [if_neg c2]; exact wpS_pure ⟨_,_,_,_,_,rfl,rfl,hM',by omega⟩
  ·rintro c st' ⟨o',i',j',ac,bc,rfl,rfl,hM',hc⟩
   exact ⟨rfl,.inr ⟨_,_,_,_,_,rfl,hM',by omega⟩⟩
  ·rintro c st' ⟨rfl,⟨r,z,rfl,hr⟩ | ⟨o',i',j',ac,bc,rfl,hM',hc'⟩⟩
   ·exact wpS_pure ⟨_,_,_,rfl,rfl,hr⟩
   ·dsimp only
    -- by leaps
    refine wpS_bind (wpS_lift (wpAny_rule ⟨rfl,?_⟩))
    refine wpS_bind (wpS_mono (wpS_forRange (I:=fun x c st'=>∃ g o2 i2 j2 m ac bc,st'=stG st g/\c=(none,o2,i2,j2,m,ac,bc)/\Mid lt a b o2 i2 j2/\i' + j'<=i2 + j2)
     (Q:=fun c st'=>∃ g,st'=stG st g/\((∃ r z,c=(some r,z)/\Fine lt a b r)\/∃ o2 i2 j2 z,c=(none,o2,i2,j2,z)/\Mid lt a b o2 i2 j2/\i' + j'<=i2 + j2)) ?_ ?_ ⟨_,_,_,_,_,_,_,rfl,rfl,hM',Nat.le_refl _⟩) ?_)
    ·rintro x c st' _ hx ⟨g,o2,i2,j2,m2,ac,bc,rfl,rfl,⟨hI,h1,h2⟩,hc2⟩
     dsimp only
     by_cases cm:m2 > 1
     ·rw [if_pos cm]
      refine wpS_bind (wpS_modify ?_)
      refine segA_ok (st:=stG st (m2 - 1)) (o:=o2) (i:=i2) (j:=j2) (m:=m2 - 1) (p:=ac) (r:=bc) (n:=i' + j') X hk hl ⟨?_,?_,?_⟩ hI h1 h2 hc2
      ·exact fun r z hr=>⟨_,rfl,.inl ⟨_,_,rfl,hr⟩⟩
      ·exact fun o i j z hM hn=>⟨_,rfl,.inr ⟨_,_,_,_,rfl,hM,hn⟩⟩
      ·exact fun o i j z hM hn=>⟨_,_,_,_,_,_,_,rfl,rfl,hM,hn⟩
     ·rw [if_neg cm]
      refine wpS_bind (wpS_modify ?_)
      refine segA_ok (st:=stG st (m2)) (o:=o2) (i:=i2) (j:=j2) (m:=m2) (p:=ac) (r:=bc) (n:=i' + j') X hk hl ⟨?_,?_,?_⟩ hI h1 h2 hc2
      ·exact fun r z hr=>⟨_,rfl,.inl ⟨_,_,rfl,hr⟩⟩
      ·exact fun o i j z hM hn=>⟨_,rfl,.inr ⟨_,_,_,_,rfl,hM,hn⟩⟩
      ·exact fun o i j z hM hn=>⟨_,_,_,_,_,_,_,rfl,rfl,hM,hn⟩
    ·rintro c st' ⟨g,o2,i2,j2,m,ac,bc,rfl,rfl,hM2,hc2⟩
     exact ⟨_,rfl,.inr ⟨_,_,_,_,rfl,hM2,hc2⟩⟩
    ·rintro c st' ⟨g,rfl,⟨r,z,rfl,hr⟩ | ⟨o2,i2,j2,z,rfl,hM2,hc2⟩⟩
     ·exact wpS_pure ⟨_,_,_,rfl,rfl,hr⟩
     ·exact wpS_bind (wpS_modify (wpS_pure ⟨_,_,_,_,_,rfl,rfl,hM2,by show x + 1<=i2 + j2; omega⟩))
 ·rintro c st' ⟨g,o,i,j,m,rfl,rfl,⟨_,h1,h2⟩,hc⟩
  exfalso
  have:max 0 (a.size + b.size)<=i + j:=hc
  omega
 ·rintro c st' ⟨g,r,z,rfl,rfl,hr⟩
  exact wpS_pure (q _ _ hr)
end
structure HI (lt:Keyed->Keyed->Bool) (a b out:Array Keyed) (i j:Nat):Prop where
 asc:SrtL lt out.toList.reverse
 hgh:∀ x ∈ out.toList,∀ y,y ∈ a.toList.take i\/y ∈ b.toList.take j->lt x y=false
 prm:(a.toList.take i++(b.toList.take j++out.toList.reverse)).Perm (a.toList++b.toList)
section
variable {lt:Keyed->Keyed->Bool} {a b out:Array Keyed} {i j:Nat}
theorem last_le (L:LtK lt) {x y:Keyed} {l:List Keyed} (h:SrtL lt (l++[x])) (e:lt y x=false):∀ z ∈ l++[x],lt y z=false:=fun z hz=>by
 rcases List.mem_append.mp hz with hz | hz
 ·exact L.tr ((List.pairwise_append.mp h).2.2 z hz x List.mem_cons_self) e
 ·cases List.mem_singleton.mp hz; exact e
theorem take_at {arr:Array Keyed} {i:Nat} {x:Keyed} (h:arr[i]?=some x):arr.toList.take (i + 1)=arr.toList.take i++[x]:=by
 obtain ⟨hi,rfl⟩:=Array.getElem?_eq_some_iff.mp h
 rw [List.take_succ_eq_append_getElem (by simpa using hi)]
 simp
theorem srt_take {arr:Array Keyed} (h:SrtL lt arr.toList) (i:Nat):SrtL lt (arr.toList.take i):=List.Pairwise.sublist (List.take_sublist i _) h
theorem HI.pushA (I:HI lt a b out (i + 1) j) (ha:SrtL lt a.toList) {y:Keyed} (e:a[i]?=some y) (h:∀ z ∈ b.toList.take j,lt y z=false):HI lt a b (out.push y) i j:=by
 have d:=take_at e
 have sa:=srt_take ha (i + 1)
 rw [d] at sa
 refine ⟨?_,fun x hx z hz=>?_,?_⟩
 ·rw [Array.toList_push,List.reverse_append]
  refine List.pairwise_cons.mpr ⟨fun x hx=>?_,I.asc⟩
  exact I.hgh x (List.mem_reverse.mp hx) _ (.inl (by rw [d]; exact List.mem_append_right _ List.mem_cons_self))
 ·rw [Array.toList_push] at hx
  rcases List.mem_append.mp hx with hx | hx
  ·exact I.hgh x hx z (hz.imp (fun q=>by rw [d]; exact List.mem_append_left _ q) id)
  ·cases List.mem_singleton.mp hx
   rcases hz with hz | hz
   ·exact (List.pairwise_append.mp sa).2.2 z hz _ List.mem_cons_self
   ·exact h z hz
 ·refine List.Perm.trans ?_ I.prm
  rw [Array.toList_push,d,List.append_assoc,List.reverse_append]
  refine List.Perm.append_left _ ?_
  exact List.perm_middle
theorem HI.pushB (I:HI lt a b out i (j + 1)) (hb:SrtL lt b.toList) {y:Keyed} (e:b[j]?=some y) (h:∀ z ∈ a.toList.take i,lt y z=false):HI lt a b (out.push y) i j:=by
 have d:=take_at e
 have sb:=srt_take hb (j + 1)
 rw [d] at sb
 refine ⟨?_,fun x hx z hz=>?_,?_⟩
 ·rw [Array.toList_push,List.reverse_append]
  refine List.pairwise_cons.mpr ⟨fun x hx=>?_,I.asc⟩
  exact I.hgh x (List.mem_reverse.mp hx) _ (.inr (by rw [d]; exact List.mem_append_right _ List.mem_cons_self))
 ·rw [Array.toList_push] at hx
  rcases List.mem_append.mp hx with hx | hx
  ·exact I.hgh x hx z (hz.imp id fun q=>by rw [d]; exact List.mem_append_left _ q)
  ·cases List.mem_singleton.mp hx
   rcases hz with hz | hz
   ·exact h z hz
   ·exact (List.pairwise_append.mp sb).2.2 z hz _ List.mem_cons_self
 ·refine List.Perm.trans ?_ I.prm
  rw [Array.toList_push,d,List.reverse_append,List.append_assoc]
  exact List.Perm.refl _
theorem ext_rev {arr:Array Keyed} {i k:Nat} (h:i + k < arr.size) (o:Array Keyed):o++(arr.extract i (i + k + 1)).reverse=o.push arr[i + k]++(arr.extract i (i + k)).reverse:=by
 have e:arr.extract i (i + k + 1)=(arr.extract i (i + k)).push arr[i + k]:=ext_push h
 rw [e]
 refine Array.toList_inj.mp ?_
 simp only [Array.toList_append,Array.toList_reverse,Array.toList_push,List.reverse_append,List.reverse_cons,List.reverse_nil,List.nil_append,List.append_assoc]
theorem HI.runA {m:Nat} (ha:SrtL lt a.toList):∀ (k:Nat) {out:Array Keyed},HI lt a b out (m + k) j->m + k<=a.size->(∀ n,m<=n->n < m + k->∀ y,a[n]?=some y->∀ z ∈ b.toList.take j,lt y z=false)->HI lt a b (out++(a.extract m (m + k)).reverse) m j
 | 0,out,I,_,_=>by rw [ext_nil]; simpa using I
 | k + 1,out,I,hk,h=>by
  have e:a[m + k]?=some a[m + k]:=Array.getElem?_eq_getElem (by omega)
  have I':=HI.pushA (i:=m + k) I ha e (h (m + k) (by omega) (by omega) _ e)
  have:=HI.runA ha k I' (by omega) fun n h1 h2=>h n h1 (by omega)
  rw [<-ext_rev (by omega)] at this
  exact this
theorem HI.runB {m:Nat} (hb:SrtL lt b.toList):∀ (k:Nat) {out:Array Keyed},HI lt a b out i (m + k)->m + k<=b.size->(∀ n,m<=n->n < m + k->∀ y,b[n]?=some y->∀ z ∈ a.toList.take i,lt y z=false)->HI lt a b (out++(b.extract m (m + k)).reverse) i m
 | 0,out,I,_,_=>by rw [ext_nil]; simpa using I
 | k + 1,out,I,hk,h=>by
  have e:b[m + k]?=some b[m + k]:=Array.getElem?_eq_getElem (by omega)
  have I':=HI.pushB (j:=m + k) I hb e (h (m + k) (by omega) (by omega) _ e)
  have:=HI.runB hb k I' (by omega) fun n h1 h2=>h n h1 (by omega)
  rw [<-ext_rev (by omega)] at this
  exact this
theorem ext_take (arr:Array Keyed) (i:Nat):(arr.extract 0 i).toList=arr.toList.take i:=by
 rw [Array.toList_extract,List.extract_eq_take_drop]
 simp
theorem HI.done (I:HI lt a b out i j) (ha:SrtL lt a.toList) (hb:SrtL lt b.toList) (h:i=0\/j=0):Fine lt a b (a.extract 0 i++b.extract 0 j++out.reverse):=by
 unfold Fine
 rw [Array.toList_append,Array.toList_append,ext_take,ext_take,Array.toList_reverse,List.append_assoc]
 refine ⟨List.pairwise_append.mpr ⟨srt_take ha i,List.pairwise_append.mpr ⟨srt_take hb j,I.asc,fun x hx y hy=>I.hgh y (List.mem_reverse.mp hy) x (.inr hx)⟩,fun x hx y hy=>?_⟩,I.prm⟩
 rcases List.mem_append.mp hy with hy | hy
 ·rcases h with rfl | rfl
  ·simp at hx
  ·simp at hy
 ·exact I.hgh y (List.mem_reverse.mp hy) x (.inl hx)
theorem HI.firstB (I:HI lt a b out i j) (ha:SrtL lt a.toList) (hb:SrtL lt b.toList) (hf:∀ x ∈ b.toList.take 1,∀ y ∈ a.toList,lt y x=false) (h:j=1):Fine lt a b (b.extract 0 j++a.extract 0 i++out.reverse):=by
 unfold Fine
 subst h
 rw [Array.toList_append,Array.toList_append,ext_take,ext_take,Array.toList_reverse,List.append_assoc]
 refine ⟨List.pairwise_append.mpr ⟨srt_take hb 1,List.pairwise_append.mpr ⟨srt_take ha i,I.asc,fun x hx y hy=>I.hgh y (List.mem_reverse.mp hy) x (.inl hx)⟩,fun x hx y hy=>?_⟩,?_⟩
 ·rcases List.mem_append.mp hy with hy | hy
  ·exact hf x hx y (List.mem_of_mem_take hy)
  ·exact I.hgh y (List.mem_reverse.mp hy) x (.inr hx)
 ·refine List.Perm.trans ?_ I.prm
  rw [<-List.append_assoc,<-List.append_assoc]
  exact List.Perm.append_right _ List.perm_append_comm
end
noncomputable def MidH (lt:Keyed->Keyed->Bool) (a b o:Array Keyed) (i j:Nat):Prop:=HI lt a b o i j/\0 < i/\i<=a.size/\1 < j/\j<=b.size
noncomputable abbrev HiT:Type:=Option (Array Keyed) × Nat × Nat × Array Keyed × Nat × Nat × Nat
noncomputable def higC (a b o:Array Keyed) (i j m p r:Nat):StateT SortSt Sem (ForInStep HiT) :=
 elem' a (i - 1) >>= fun v=>if (i - 1 == 0)=true then pure (.done (some (a.extract 0 (i - 1)++b.extract 0 j++(o.push v).reverse),i - 1,j,o.push v,m,p,r))
  else if (decide (p < 7) && decide (r < 7))=true then pure (.done (none,i - 1,j,o.push v,m,p,r)) else pure (.yield (none,i - 1,j,o.push v,m,p,r))
noncomputable def higB (a b o:Array Keyed) (i j m p r:Nat):StateT SortSt Sem (ForInStep HiT) :=
 elem' b (j - 1) >>= fun y=>if (j - 1 == 1)=true then pure (.done (some (b.extract 0 (j - 1)++a.extract 0 i++(o.push y).reverse),i,j - 1,o.push y,m,p,r))
  else elem' a (i - 1) >>= fun v=>gallop' true v b 0 (j - 1) (j - 1 - 1) >>= fun t=>match t with
   | some k=>if j - 1 - k > 0 then (if (k == 1)=true then pure (.done (some (b.extract 0 k++a.extract 0 i++(o.push y++(b.extract k (j - 1)).reverse).reverse),i,k,o.push y++(b.extract k (j - 1)).reverse,m,p,j - 1 - k))
     else if (k == 0)=true then pure (.done (some (a.extract 0 i++b.extract 0 k++(o.push y++(b.extract k (j - 1)).reverse).reverse),i,k,o.push y++(b.extract k (j - 1)).reverse,m,p,j - 1 - k))
     else higC a b (o.push y++(b.extract k (j - 1)).reverse) i k m p (j - 1 - k)) else higC a b (o.push y) i (j - 1) m p (j - 1 - k)
   | _=>pure (.done (some (a.extract 0 i++b.extract 0 (j - 1)++(o.push y).reverse),i,j - 1,o.push y,m,p,r))
noncomputable def higA (a b o:Array Keyed) (i j m p r:Nat):StateT SortSt Sem (ForInStep HiT) :=
 elem' b (j - 1) >>= fun y=>gallop' false y a 0 i (i - 1) >>= fun t=>match t with
  | some k=>if i - k > 0 then (if (k == 0)=true then pure (.done (some (a.extract 0 k++b.extract 0 j++(o++(a.extract k i).reverse).reverse),k,j,o++(a.extract k i).reverse,m,i - k,r))
    else higB a b (o++(a.extract k i).reverse) k j m (i - k) r) else higB a b o i j m (i - k) r
  | _=>pure (.done (some (a.extract 0 i++b.extract 0 j++o.reverse),i,j,o,m,p,r))
structure HiP (lt:Keyed->Keyed->Bool) (a b:Array Keyed) (n:Nat) (st:SortSt) (P:ForInStep HiT->SortSt->Prop):Prop where
 r:∀ r z,Fine lt a b r->P (.done (some r,z)) st
 d:∀ o i j z,MidH lt a b o i j->i + j<=n->P (.done (none,i,j,o,z)) st
 y:∀ o i j z,MidH lt a b o i j->i + j<=n->P (.yield (none,i,j,o,z)) st
section
variable {prog:Program} {w:World} {A:Around} {E:Value->Shared->Prop} {s:Shared} {lt:Keyed->Keyed->Bool} {κ:SortKind} {S:Keyed->Prop} {a b o:Array Keyed} {i j m p r n:Nat} {st:SortSt} {P:ForInStep HiT->SortSt->Prop}
theorem higC_ok (X:MCx prog w A s κ lt S a b) (pP:HiP lt a b n st P) (I:HI lt a b o i j) (h1:0 < i) (h1':i<=a.size) (h2:1 < j) (h2':j<=b.size) (hn:i + j<=n) {v:Keyed} (ev:a[i - 1]?=some v) (Z:∀ z ∈ b.toList.take j,lt v z=false) :
  wpS (model prog w) A E s (higC a b o i j m p r) P st:=by
 unfold higC
 refine wpS_bind (elem_ok ev ?_)
 have I6:=HI.pushA (i:=i - 1) (by rw [show i - 1 + 1=i by omega]; exact I) X.ha ev Z
 by_cases d2:(i - 1 == 0)=true
 ·rw [if_pos d2]; exact wpS_pure (pP.r _ _ (I6.done X.ha X.hb (.inl (by simpa using d2))))
 rw [if_neg d2]
 have d2':¬ i - 1=0:=by simpa using d2
 split
 ·exact wpS_pure (pP.d _ _ _ _ ⟨I6,by omega,by omega,h2,h2'⟩ (by omega))
 ·exact wpS_pure (pP.y _ _ _ _ ⟨I6,by omega,by omega,h2,h2'⟩ (by omega))
theorem higB_ok (X:MCx prog w A s κ lt S a b) (hk:kindOf st=κ) (hf:∀ x ∈ b.toList.take 1,∀ y ∈ a.toList,lt y x=false) (pP:HiP lt a b n st P) (I:HI lt a b o i j) (h1:0 < i) (h1':i<=a.size) (h2:1 < j) (h2':j<=b.size) (hn:i + j<=n) {y:Keyed} (ey:b[j - 1]?=some y) (Z:∀ z ∈ a.toList.take i,lt y z=false) :
  wpS (model prog w) A E s (higB a b o i j m p r) P st:=by
 unfold higB
 refine wpS_bind (elem_ok ey ?_)
 have I4:=HI.pushB (j:=j - 1) (by rw [show j - 1 + 1=j by omega]; exact I) X.hb ey Z
 by_cases d1:(j - 1 == 1)=true
 ·rw [if_pos d1]; exact wpS_pure (pP.r _ _ (I4.firstB X.ha X.hb hf (by simpa using d1)))
 rw [if_neg d1]
 have d1':¬ j - 1=1:=by simpa using d1
 obtain ⟨v,ev,sv⟩:=X.ga (i - 1) (by omega)
 have dA:=take_at ev
 rw [show i - 1 + 1=i by omega] at dA
 have pA:=srt_take X.ha i
 rw [dA] at pA
 refine wpS_bind (elem_ok ev (wpS_bind ?_))
 refine gallop_ok (B:=fun n=>lt (b[n]?.getD default) v) X.h hk sv (by omega) (fun n hn=>?_) (fun n n' hii hi' hB=>?_) fun k hk1 hk2 hk3=>?_
 ·obtain ⟨x,ex,sx⟩:=X.gb n (by omega)
  refine ⟨x,by rw [Nat.zero_add]; exact ex,sx,?_⟩
  simp only [ex]; rfl
 ·obtain ⟨x,ex,sx⟩:=X.gb n (by omega)
  obtain ⟨x',ex',sx'⟩:=X.gb n' (by omega)
  simp only [ex,ex',Option.getD_some] at hB ⊢
  cases hx:lt x v with
  | true=>rfl
  | false=>rw [X.L.tr hx (srt_at X.L X.hb (by omega) ex ex')] at hB; cases hB
 have I5:HI lt a b (o.push y++(b.extract k (j - 1)).reverse) i k:=by
  have:=HI.runB (m:=k) X.hb (j - 1 - k) (out:=o.push y) (by rw [show k + (j - 1 - k)=j - 1 by omega]; exact I4) (by omega) fun n q1 q2 z hz u hu=>by
   have:=hk3 n q1 (by omega)
   simp only [hz,Option.getD_some] at this
   rw [dA] at hu
   exact last_le X.L pA this u hu
  rwa [show k + (j - 1 - k)=j - 1 by omega] at this
 have Z5:∀ z ∈ b.toList.take k,lt v z=false:=fun z hz=>by
  obtain ⟨n,hn,rfl⟩:=List.getElem_of_mem hz
  rw [List.length_take,Array.length_toList] at hn
  have:=hk2 n (by omega)
  rw [Array.getElem?_eq_getElem (show n < b.size by omega)] at this
  simp only [Option.getD_some] at this
  rw [List.getElem_take]
  simp only [Array.getElem_toList]
  exact X.L.as this
 dsimp only
 by_cases hk0:j - 1 - k > 0
 ·rw [if_pos hk0]
  by_cases c1:(k == 1)=true
  ·rw [if_pos c1]; exact wpS_pure (pP.r _ _ (I5.firstB X.ha X.hb hf (by simpa using c1)))
  rw [if_neg c1]
  have c1':¬ k=1:=by simpa using c1
  by_cases c2:(k == 0)=true
  ·rw [if_pos c2]; exact wpS_pure (pP.r _ _ (I5.done X.ha X.hb (.inr (by simpa using c2))))
  rw [if_neg c2]
  have c2':¬ k=0:=by simpa using c2
  exact higC_ok X pP I5 h1 h1' (by omega) (by omega) (by omega) ev Z5
 ·rw [if_neg hk0]
  obtain rfl:k=j - 1:=by omega
  exact higC_ok X pP I4 h1 h1' (by omega) (by omega) (by omega) ev Z5
theorem higA_ok (X:MCx prog w A s κ lt S a b) (hk:kindOf st=κ) (hf:∀ x ∈ b.toList.take 1,∀ y ∈ a.toList,lt y x=false) (pP:HiP lt a b n st P) (I:HI lt a b o i j) (h1:0 < i) (h1':i<=a.size) (h2:1 < j) (h2':j<=b.size) (hn:i + j<=n) :
  wpS (model prog w) A E s (higA a b o i j m p r) P st:=by
 unfold higA
 obtain ⟨y,ey,sy⟩:=X.gb (j - 1) (by omega)
 have dB:=take_at ey
 rw [show j - 1 + 1=j by omega] at dB
 have pB:=srt_take X.hb j
 rw [dB] at pB
 refine wpS_bind (elem_ok ey (wpS_bind ?_))
 refine gallop_ok (B:=fun n=>!lt y (a[n]?.getD default)) X.h hk sy (by omega) (fun n hn=>?_) (fun n n' hii hi' hB=>?_) fun k hk1 hk2 hk3=>?_
 ·obtain ⟨x,ex,sx⟩:=X.ga n (by omega)
  refine ⟨x,by rw [Nat.zero_add]; exact ex,sx,?_⟩
  simp only [ex]; rfl
 ·obtain ⟨x,ex,sx⟩:=X.ga n (by omega)
  obtain ⟨x',ex',sx'⟩:=X.ga n' (by omega)
  simp only [ex,ex',Option.getD_some,Bool.not_eq_true'] at hB ⊢
  exact X.L.tr (srt_at X.L X.ha (by omega) ex ex') hB
 have I3:HI lt a b (o++(a.extract k i).reverse) k j:=by
  have:=HI.runA (m:=k) X.ha (i - k) (out:=o) (by rw [show k + (i - k)=i by omega]; exact I) (by omega) fun n q1 q2 z hz v hv=>by
   have:=hk3 n q1 (by omega)
   simp only [hz,Option.getD_some,Bool.not_eq_false'] at this
   rw [dB] at hv
   exact last_le X.L pB (X.L.as this) v hv
  rwa [show k + (i - k)=i by omega] at this
 have Z3:∀ z ∈ a.toList.take k,lt y z=false:=fun z hz=>by
  obtain ⟨n,hn,rfl⟩:=List.getElem_of_mem hz
  rw [List.length_take,Array.length_toList] at hn
  have:=hk2 n (by omega)
  rw [Array.getElem?_eq_getElem (show n < a.size by omega)] at this
  simp only [Option.getD_some,Bool.not_eq_true'] at this
  rw [List.getElem_take]
  simp only [Array.getElem_toList]
  exact this
 dsimp only
 by_cases hk0:i - k > 0
 ·rw [if_pos hk0]
  by_cases c1:(k == 0)=true
  ·rw [if_pos c1]; exact wpS_pure (pP.r _ _ (I3.done X.ha X.hb (.inl (by simpa using c1))))
  rw [if_neg c1]
  have c1':¬ k=0:=by simpa using c1
  exact higB_ok X hk hf pP I3 (by omega) (by omega) h2 h2' (by omega) ey Z3
 ·rw [if_neg hk0]
  obtain rfl:k=i:=by omega
  exact higB_ok X hk hf pP I h1 h1' h2 h2' (by omega) ey Z3
theorem mergeHi_ok {Q:Array Keyed->SortSt->Prop} (X:MCx prog w A s κ lt S a b) (hk:kindOf st=κ)
  (a0:0 < a.size) (b0:0 < b.size) (hf:∀ x ∈ b.toList.take 1,∀ y ∈ a.toList,lt y x=false) (hl:∀ x y,a[a.size - 1]?=some x->y ∈ b.toList->lt x y=false)
  (q:∀ g out,Fine lt a b out->Q out (stG st g)):wpS (model prog w) A E s (mergeHi' a b) Q st:=by
 refine wpS_bind (wpS_lift (wpAny_rule ⟨rfl,?_⟩))
 obtain ⟨x0,ex0,_⟩:=X.ga (a.size - 1) (by omega)
 refine wpS_bind (elem_ok ex0 ?_)
 have I0:HI lt a b #[x0] (a.size - 1) b.size:=by
  have I:HI lt a b #[] (a.size - 1 + 1) b.size:=⟨List.Pairwise.nil,fun x hx=>by simp at hx,by rw [show a.size - 1 + 1=a.size by omega,List.take_of_length_le (by simp),List.take_of_length_le (by simp)]; simp⟩
  exact I.pushA X.ha ex0 fun z hz=>hl _ _ ex0 (List.mem_of_mem_take hz)
 dsimp only
 by_cases e1:(a.size - 1 == 0)=true
 ·rw [if_pos e1]
  exact wpS_pure (q _ _ (I0.done X.ha X.hb (.inl (by simpa using e1))))
 rw [if_neg e1]
 by_cases e2:(b.size == 1)=true
 ·rw [if_pos e2]
  exact wpS_pure (q _ _ (I0.firstB X.ha X.hb hf (by simpa using e2)))
 rw [if_neg e2]
 have ha1:¬ a.size - 1=0:=by simpa using e1
 have hb1:¬ b.size=1:=by simpa using e2
 refine wpS_bind (wpS_get ?_)
 refine wpS_bind (wpS_mono (wpS_forRange (I:=fun x c st'=>∃ g o i j m,st'=stG st g/\c=(none,i,j,o,m)/\MidH lt a b o i j/\x + i + j<=a.size + b.size)
  (Q:=fun c st'=>∃ g r z,st'=stG st g/\c=(some r,z)/\Fine lt a b r) ?_ ?_ ⟨_,_,_,_,_,rfl,rfl,⟨I0,by omega,by omega,by omega,Nat.le_refl _⟩,by omega⟩) ?_)
 ·rintro x c st' _ hx ⟨g,o,i,j,m,rfl,rfl,hM,hc⟩
  dsimp only
  -- one by one
  refine wpS_bind (wpS_mono (wpS_forRange (I:=fun x c st'=>∃ o' i' j' ac bc,st'=stG st g/\c=(none,i',j',o',ac,bc)/\MidH lt a b o' i' j'/\i' + j' + x<=i + j)
   (Q:=fun c st'=>st'=stG st g/\((∃ r z,c=(some r,z)/\Fine lt a b r)\/∃ o' i' j' ac bc,c=(none,i',j',o',ac,bc)/\MidH lt a b o' i' j'/\i' + j' + 1<=i + j)) ?_ ?_ ⟨_,_,_,_,_,rfl,rfl,hM,by omega⟩) ?_)
  ·rintro x c st' _ hx ⟨o',i',j',ac,bc,rfl,rfl,⟨hI,h1,h1',h2,h2'⟩,hc⟩
   dsimp only
   obtain ⟨y,ey,sy⟩:=X.gb (j' - 1) (by omega)
   obtain ⟨z,ez,sz⟩:=X.ga (i' - 1) (by omega)
   refine wpS_bind (elem_ok ey (wpS_bind (elem_ok ez (wpS_bind (ltk_ok X.h hk sy sz ?_)))))
   have dA:=take_at ez
   have dB:=take_at ey
   rw [show i' - 1 + 1=i' by omega] at dA
   rw [show j' - 1 + 1=j' by omega] at dB
   have pA:=srt_take X.ha i'
   have pB:=srt_take X.hb j'
   rw [dA] at pA
   rw [dB] at pB
   cases hw:lt y z with
   | true =>
    have I':=HI.pushA (i:=i' - 1) (by rw [show i' - 1 + 1=i' by omega]; exact hI) X.ha ez (by rw [dB]; exact last_le X.L pB (X.L.as hw))
    refine wpS_bind (elem_ok ez ?_)
    (try dsimp only)
    by_cases c1:(i' - 1 == 0)=true
    ·rw [if_pos c1]; exact wpS_pure ⟨rfl,.inl ⟨_,_,rfl,I'.done X.ha X.hb (.inl (by simpa using c1))⟩⟩
    ·rw [if_neg c1]
     have c1':¬ i' - 1=0:=by simpa using c1
     have hM':MidH lt a b (o'.push z) (i' - 1) j':=⟨I',by omega,by omega,h2,h2'⟩
     by_cases c2:ac + 1 ≥ m
     ·rw [if_pos c2]; exact wpS_pure ⟨rfl,.inr ⟨_,_,_,_,_,rfl,hM',by omega⟩⟩
     ·rw [if_neg c2]; exact wpS_pure ⟨_,_,_,_,_,rfl,rfl,hM',by omega⟩
   | false =>
    have I':=HI.pushB (j:=j' - 1) (by rw [show j' - 1 + 1=j' by omega]; exact hI) X.hb ey (by rw [dA]; exact last_le X.L pA hw)
    refine wpS_bind (elem_ok ey ?_)
    (try dsimp only)
    by_cases c1:(j' - 1 == 1)=true
    ·rw [if_pos c1]; exact wpS_pure ⟨rfl,.inl ⟨_,_,rfl,I'.firstB X.ha X.hb hf (by simpa using c1)⟩⟩
    ·rw [if_neg c1]
     have c1':¬ j' - 1=1:=by simpa using c1
     have hM':MidH lt a b (o'.push y) i' (j' - 1):=⟨I',h1,h1',by omega,by omega⟩
     by_cases c2:bc + 1 ≥ m
     ·rw [if_pos c2]; exact wpS_pure ⟨rfl,.inr ⟨_,_,_,_,_,rfl,hM',by omega⟩⟩
     ·rw [if_neg c2]; exact wpS_pure ⟨_,_,_,_,_,rfl,rfl,hM',by omega⟩
  ·rintro c st' ⟨o',i',j',ac,bc,rfl,rfl,hM',hc⟩
   exact ⟨rfl,.inr ⟨_,_,_,_,_,rfl,hM',by omega⟩⟩
  ·rintro c st' ⟨rfl,⟨r,z,rfl,hr⟩ | ⟨o',i',j',ac,bc,rfl,hM',hc'⟩⟩
   ·exact wpS_pure ⟨_,_,_,rfl,rfl,hr⟩
   ·dsimp only
    -- by leaps
    refine wpS_bind (wpS_lift (wpAny_rule ⟨rfl,?_⟩))
    refine wpS_bind (wpS_mono (wpS_forRange (I:=fun x c st'=>∃ g o2 i2 j2 m ac bc,st'=stG st g/\c=(none,i2,j2,o2,m,ac,bc)/\MidH lt a b o2 i2 j2/\i2 + j2<=i' + j')
     (Q:=fun c st'=>∃ g,st'=stG st g/\((∃ r z,c=(some r,z)/\Fine lt a b r)\/∃ o2 i2 j2 z,c=(none,i2,j2,o2,z)/\MidH lt a b o2 i2 j2/\i2 + j2<=i' + j')) ?_ ?_ ⟨_,_,_,_,_,_,_,rfl,rfl,hM',Nat.le_refl _⟩) ?_)
    ·rintro x c st' _ hx ⟨g,o2,i2,j2,m2,ac,bc,rfl,rfl,⟨hI,h1,h1',h2,h2'⟩,hc2⟩
     dsimp only
     by_cases cm:m2 > 1
     ·rw [if_pos cm]
      refine wpS_bind (wpS_modify ?_)
      refine higA_ok (st:=stG st (m2 - 1)) (o:=o2) (i:=i2) (j:=j2) (m:=m2 - 1) (p:=ac) (r:=bc) (n:=i' + j') X hk hf ⟨?_,?_,?_⟩ hI h1 h1' h2 h2' hc2
      ·exact fun r z hr=>⟨_,rfl,.inl ⟨_,_,rfl,hr⟩⟩
      ·exact fun o i j z hM hn=>⟨_,rfl,.inr ⟨_,_,_,_,rfl,hM,hn⟩⟩
      ·exact fun o i j z hM hn=>⟨_,_,_,_,_,_,_,rfl,rfl,hM,hn⟩
     ·rw [if_neg cm]
      refine wpS_bind (wpS_modify ?_)
      refine higA_ok (st:=stG st m2) (o:=o2) (i:=i2) (j:=j2) (m:=m2) (p:=ac) (r:=bc) (n:=i' + j') X hk hf ⟨?_,?_,?_⟩ hI h1 h1' h2 h2' hc2
      ·exact fun r z hr=>⟨_,rfl,.inl ⟨_,_,rfl,hr⟩⟩
      ·exact fun o i j z hM hn=>⟨_,rfl,.inr ⟨_,_,_,_,rfl,hM,hn⟩⟩
      ·exact fun o i j z hM hn=>⟨_,_,_,_,_,_,_,rfl,rfl,hM,hn⟩
    ·rintro c st' ⟨g,o2,i2,j2,m,ac,bc,rfl,rfl,hM2,hc2⟩
     exact ⟨_,rfl,.inr ⟨_,_,_,_,rfl,hM2,hc2⟩⟩
    ·rintro c st' ⟨g,rfl,⟨r,z,rfl,hr⟩ | ⟨o2,i2,j2,z,rfl,hM2,hc2⟩⟩
     ·exact wpS_pure ⟨_,_,_,rfl,rfl,hr⟩
     ·exact wpS_bind (wpS_modify (wpS_pure ⟨_,_,_,_,_,rfl,rfl,hM2,by show x + 1 + i2 + j2<=a.size + b.size; omega⟩))
 ·rintro c st' ⟨g,o,i,j,m,rfl,rfl,⟨_,h1,_,h2,_⟩,hc⟩
  exfalso
  have:max 0 (a.size + b.size) + i + j<=a.size + b.size:=hc
  omega
 ·rintro c st' ⟨g,r,z,rfl,rfl,hr⟩
  exact wpS_pure (q _ _ hr)
end
theorem fold_set (sa:Nat):∀ (l:List Keyed) (d:Nat) (arr:Array Keyed),sa + d + l.length<=arr.size->((l.zipIdx d).foldl (fun a q=>a.setIfInBounds (sa + q.2) q.1) arr).toList=arr.toList.take (sa + d)++(l++arr.toList.drop (sa + d + l.length))
 | [],d,arr,_=>by simp
 | x :: l,d,arr,h=>by
  rw [List.length_cons] at h
  rw [List.zipIdx_cons,List.foldl_cons,fold_set sa l (d + 1) _ (by rw [Array.size_setIfInBounds]; omega)]
  dsimp only
  rw [Array.toList_setIfInBounds,List.drop_set_of_lt (by omega),show sa + (d + 1)=sa + d + 1 by omega,List.take_succ_eq_append_getElem (by simp; omega)]
  simp only [List.getElem_set_self,List.length_cons,List.append_assoc,List.cons_append,List.nil_append]
  rw [List.take_set_of_le (Nat.le_refl _),show sa + d + 1 + l.length=sa + d + (l.length + 1) by omega]
section
variable {lt:Keyed->Keyed->Bool} {arr:Array Keyed}
theorem ext_list (arr:Array Keyed) (i j:Nat):(arr.extract i j).toList=(arr.toList.drop i).take (j - i):=by
 rw [Array.toList_extract,List.extract_eq_take_drop]
theorem ext_get {arr:Array Keyed} {i j n:Nat} (h:n < j - i):(arr.extract i j)[n]?=arr[i + n]?:=by
 rw [<-Array.getElem?_toList,ext_list,List.getElem?_take_of_lt h,List.getElem?_drop,Array.getElem?_toList]
theorem mem_drop_take {arr:Array Keyed} {i j:Nat} {z:Keyed} (h:z ∈ (arr.extract i j).toList):∃ n,i<=n/\n < j/\arr[n]?=some z:=by
 rw [ext_list] at h
 obtain ⟨n,hn,rfl⟩:=List.getElem_of_mem h
 rw [List.length_take,List.length_drop,Array.length_toList] at hn
 refine ⟨i + n,by omega,by omega,?_⟩
 rw [Array.getElem?_eq_getElem (by omega),List.getElem_take,List.getElem_drop]
 simp
theorem mem_dropA {arr:Array Keyed} {i:Nat} {z:Keyed} (h:z ∈ arr.toList.drop i):∃ n,i<=n/\n < arr.size/\arr[n]?=some z:=by
 rw [<-ext_drop] at h
 exact mem_drop_take h
theorem mem_takeA {arr:Array Keyed} {i:Nat} {z:Keyed} (h:z ∈ arr.toList.take i):∃ n,n < i/\arr[n]?=some z:=by
 rw [<-ext_take] at h
 obtain ⟨n,_,h1,h2⟩:=mem_drop_take h
 exact ⟨n,h1,h2⟩
end
section
variable {prog:Program} {w:World} {A:Around} {E:Value->Shared->Prop} {s:Shared} {lt:Keyed->Keyed->Bool} {κ:SortKind} {S:Keyed->Prop}
theorem wpS_set {Q:PUnit->SortSt->Prop} {st st':SortSt} (h:Q ⟨⟩ st'):wpS (model prog w) A E s (set st':StateT SortSt Sem PUnit) Q st:=by
 unfold wpS; rw [StateT.run_set]; exact wpAny_pure ⟨rfl,h⟩
theorem pend1 {x y z:Nat × Nat × Nat}:((#[x,y].setIfInBounds 0 z).eraseIdxIfInBounds (0 + 1)).size=1:=by simp [Array.eraseIdxIfInBounds]
theorem mergeAt_ok {arr:Array Keyed} {n1 n2 p1 p2 gl:Nat} {Q:Bool->SortSt->Prop} (L:LtK lt) (h:AnsK prog w A s κ lt S)
  (hS:∀ x ∈ arr.toList,S x) (h1:0 < n1) (h2:0 < n2) (hn:n1 + n2=arr.size) (s1:SrtL lt (arr.toList.take n1)) (s2:SrtL lt (arr.toList.drop n1))
  (q:∀ st',(arrOf st').toList.Perm arr.toList->SrtL lt (arrOf st').toList->failedOf st'=none->(pendingOf st').size=1->Q true st'):wpS (model prog w) A E s (mergeAt' 0) Q (SortSt.mk' κ arr #[(0,n1,p1),(n1,n2,p2)] gl none):=by
 have g:∀ i,i < arr.size->∃ x,arr[i]?=some x/\S x:=fun i hi=>⟨arr[i],Array.getElem?_eq_getElem hi,hS _ (by simp)⟩
 have le1:∀ {i j:Nat} {x y:Keyed},i<=j->j < n1->arr[i]?=some x->arr[j]?=some y->lt y x=false:=fun {i j x y} hij hj ex ey=>by
  have:=srt_at L (arr:=arr.extract 0 n1) (by rw [ext_take]; exact s1) (i:=i) (j:=j) (x:=x) (y:=y) hij
  refine this ?_ ?_
  ·rw [ext_get (by omega),Nat.zero_add]; exact ex
  ·rw [ext_get (by omega),Nat.zero_add]; exact ey
 have le2:∀ {i j:Nat} {x y:Keyed},n1<=i->i<=j->arr[i]?=some x->arr[j]?=some y->lt y x=false:=fun {i j x y} hi hij ex ey=>by
  have:=srt_at L (arr:=arr.extract n1 arr.size) (by rw [ext_drop]; exact s2) (i:=i - n1) (j:=j - n1) (x:=x) (y:=y) (by omega)
  obtain ⟨bi,_⟩:=Array.getElem?_eq_some_iff.mp ex
  obtain ⟨bj,_⟩:=Array.getElem?_eq_some_iff.mp ey
  refine this ?_ ?_
  ·rw [ext_get (by omega),show n1 + (i - n1)=i by omega]; exact ex
  ·rw [ext_get (by omega),show n1 + (j - n1)=j by omega]; exact ey
 have all:(arr.toList.take n1++arr.toList.drop n1)=arr.toList:=List.take_append_drop _ _
 have ok:∀ {x y:Keyed},(∀ x ∈ arr.toList.take n1,∀ y ∈ arr.toList.drop n1,lt y x=false)->SrtL lt arr.toList:=fun hh=>by
  rw [<-all]; exact List.pairwise_append.mpr ⟨s1,s2,hh⟩
 refine wpS_bind (wpS_get ?_)
 refine wpS_bind (wpS_set ?_)
 obtain ⟨b0,eb0,sb0⟩:=g n1 (by omega)
 obtain ⟨al,eal,sal⟩:=g (n1 - 1) (by omega)
 refine wpS_bind (elem_ok eb0 (wpS_bind ?_))
 refine gallop_ok (B:=fun i=>!lt b0 (arr[i]?.getD default)) h rfl sb0 h1 (fun i hi=>?_) (fun i i' hii hi' hB=>?_) fun k hk1 hk2 hk3=>?_
 ·obtain ⟨x,ex,sx⟩:=g i (by omega)
  refine ⟨x,by rw [Nat.zero_add]; exact ex,sx,?_⟩
  simp only [ex]; rfl
 ·obtain ⟨x,ex,sx⟩:=g i (by omega)
  obtain ⟨x',ex',sx'⟩:=g i' (by omega)
  simp only [ex,ex',Option.getD_some,Bool.not_eq_true'] at hB ⊢
  exact L.tr (le1 hii hi' ex ex') hB
 have lo1:∀ i x,i < k->arr[i]?=some x->lt b0 x=false:=fun i x hi ex=>by
  have:=hk2 i hi
  simpa only [ex,Option.getD_some,Bool.not_eq_true'] using this
 have hi1:∀ i x,k<=i->i < n1->arr[i]?=some x->lt b0 x=true:=fun i x hi hi' ex=>by
  have:=hk3 i hi hi'
  simpa only [ex,Option.getD_some,Bool.not_eq_false'] using this
 dsimp only
 by_cases c1:(n1 - k == 0)=true
 ·rw [if_pos c1]
  have c1':n1 - k=0:=by simpa using c1
  refine wpS_pure (q _ (List.Perm.refl _) (ok (x:=b0) (y:=b0) fun x hx y hy=>?_) rfl pend1)
  obtain ⟨i,hi,ex⟩:=mem_takeA hx
  obtain ⟨j,hj,_,ey⟩:=mem_dropA hy
  exact L.tr (lo1 i x (by omega) ex) (le2 (Nat.le_refl _) hj eb0 ey)
 rw [if_neg c1]
 have c1':¬ n1 - k=0:=by simpa using c1
 refine wpS_bind (elem_ok (x:=al) (by rw [show 0 + k + (n1 - k) - 1=n1 - 1 by omega]; exact eal) (wpS_bind ?_))
 refine gallop_ok (B:=fun i=>lt (arr[n1 + i]?.getD default) al) h rfl sal (by omega) (fun i hi=>?_) (fun i i' hii hi' hB=>?_) fun nb hb1 hb2 hb3=>?_
 ·obtain ⟨x,ex,sx⟩:=g (n1 + i) (by omega)
  refine ⟨x,ex,sx,?_⟩
  simp only [ex]; rfl
 ·obtain ⟨x,ex,sx⟩:=g (n1 + i) (by omega)
  obtain ⟨x',ex',sx'⟩:=g (n1 + i') (by omega)
  simp only [ex,ex',Option.getD_some] at hB ⊢
  cases hx:lt x al with
  | true=>rfl
  | false=>rw [L.tr hx (le2 (by omega) (by omega) ex ex')] at hB; cases hB
 have lo2:∀ j y,n1<=j->j < n1 + nb->arr[j]?=some y->lt y al=true:=fun j y hj hj' ey=>by
  have:=hb2 (j - n1) (by omega)
  simpa only [show n1 + (j - n1)=j by omega,ey,Option.getD_some] using this
 have hi2:∀ j y,n1 + nb<=j->arr[j]?=some y->lt y al=false:=fun j y hj ey=>by
  obtain ⟨bj,_⟩:=Array.getElem?_eq_some_iff.mp ey
  have:=hb3 (j - n1) (by omega) (by omega)
  simpa only [show n1 + (j - n1)=j by omega,ey,Option.getD_some] using this
 dsimp only
 by_cases c2:(nb == 0)=true
 ·rw [if_pos c2]
  have c2':nb=0:=by simpa using c2
  refine wpS_pure (q _ (List.Perm.refl _) (ok (x:=b0) (y:=b0) fun x hx y hy=>?_) rfl pend1)
  obtain ⟨i,hi,ex⟩:=mem_takeA hx
  obtain ⟨j,hj,_,ey⟩:=mem_dropA hy
  exact L.tr (le1 (by omega) (by omega) ex eal) (hi2 j y (by omega) ey)
 rw [if_neg c2]
 have c2':¬ nb=0:=by simpa using c2
 -- the two parts
 simp only [Nat.zero_add]
 have zX:(arr.extract k n1).size=n1 - k:=by rw [Array.size_extract]; omega
 have zY:(arr.extract n1 (n1 + nb)).size=nb:=by rw [Array.size_extract]; omega
 have eT:arr.toList.take n1=arr.toList.take k++(arr.extract k n1).toList:=by
  rw [ext_list,<-List.take_add]; congr 1; omega
 have eD:arr.toList.drop n1=(arr.extract n1 (n1 + nb)).toList++arr.toList.drop (n1 + nb):=by
  rw [ext_list,show n1 + nb - n1=nb by omega,<-List.drop_drop,List.take_append_drop]
 have sX:SrtL lt (arr.extract k n1).toList:=by rw [eT] at s1; exact (List.pairwise_append.mp s1).2.1
 have sY:SrtL lt (arr.extract n1 (n1 + nb)).toList:=by rw [eD] at s2; exact (List.pairwise_append.mp s2).1
 have FX:∀ z ∈ (arr.extract k n1).toList,lt b0 z=true:=fun z hz=>by
  obtain ⟨i,q1,q2,e⟩:=mem_drop_take hz
  exact hi1 i z q1 q2 e
 have FY:∀ z ∈ (arr.extract n1 (n1 + nb)).toList,lt z al=true:=fun z hz=>by
  obtain ⟨i,q1,q2,e⟩:=mem_drop_take hz
  exact lo2 i z q1 q2 e
 have X:MCx prog w A s κ lt S (arr.extract k n1) (arr.extract n1 (n1 + nb)):=⟨L,h,fun i hi=>by
   rw [zX] at hi
   rw [ext_get (by omega)]; exact g _ (by omega),fun i hi=>by
   rw [zY] at hi
   rw [ext_get (by omega)]; exact g _ (by omega),sX,sY⟩
 have last:∀ x,x ∈ (arr.extract k n1).toList.drop ((arr.extract k n1).size - 1)->x=al:=fun x hx=>by
  obtain ⟨n,hn1,hn2,ex⟩:=mem_dropA hx
  rw [zX] at hn1 hn2
  rw [ext_get (by omega),show k + n=n1 - 1 by omega,eal] at ex
  cases ex; rfl
 have first:∀ x,x ∈ (arr.extract n1 (n1 + nb)).toList.take 1->x=b0:=fun x hx=>by
  obtain ⟨n,hn1,ex⟩:=mem_takeA hx
  rw [ext_get (by omega),show n1 + n=n1 by omega,eb0] at ex
  cases ex; rfl
 -- behind the merge
 have behind:∀ (m:Array Keyed),Fine lt (arr.extract k n1) (arr.extract n1 (n1 + nb)) m->∀ st':SortSt,arrOf st'=(m.toList.zipIdx.foldl (fun a q=>a.setIfInBounds (k + q.2) q.1) arr)->failedOf st'=none->(pendingOf st').size=1->Q true st':=by
  intro m hm st' e1 e2 e3
  have ml:m.toList.length=n1 - k + nb:=by
   rw [hm.2.length_eq,List.length_append,Array.length_toList,Array.length_toList,zX,zY]
  have e:(arrOf st').toList=arr.toList.take k++(m.toList++arr.toList.drop (n1 + nb)):=by
   rw [e1]
   have:=fold_set k m.toList 0 arr (by omega)
   rw [this]
   rw [show k + 0=k from rfl,show k + m.toList.length=n1 + nb by omega]
  refine q st' ?_ ?_ e2 e3
  ·have e2:arr.toList.take k++(((arr.extract k n1).toList++(arr.extract n1 (n1 + nb)).toList)++arr.toList.drop (n1 + nb))=arr.toList:=by
    rw [List.append_assoc,<-eD,<-List.append_assoc,<-eT]; exact all
   rw [e]
   exact (List.Perm.append_left _ (hm.2.append_right _)).trans (List.Perm.of_eq e2)
  ·have mem:∀ z ∈ m.toList,(∃ i,k<=i/\i < n1/\arr[i]?=some z)\/(∃ j,n1<=j/\j < n1 + nb/\arr[j]?=some z):=fun z hz=>by
    rcases List.mem_append.mp (hm.2.mem_iff.mp hz) with hz | hz
    ·exact .inl (mem_drop_take hz)
    ·exact .inr (mem_drop_take hz)
   rw [e]
   refine List.pairwise_append.mpr ⟨?_,List.pairwise_append.mpr ⟨hm.1,?_,fun x hx y hy=>?_⟩,fun x hx y hy=>?_⟩
   ·rw [eT] at s1; exact (List.pairwise_append.mp s1).1
   ·rw [eD] at s2; exact (List.pairwise_append.mp s2).2.1
   ·obtain ⟨j,q1,q2,ey⟩:=mem_dropA hy
    rcases mem x hx with ⟨i,a1,a2,ex⟩ | ⟨i,a1,a2,ex⟩
    ·exact L.tr (le1 (by omega) (by omega) ex eal) (hi2 j y q1 ey)
    ·exact le2 a1 (by omega) ex ey
   ·obtain ⟨i,a1,ex⟩:=mem_takeA hx
    have lb:∀ j,n1<=j->arr[j]?=some y->lt y x=false:=fun j hj ey=>L.tr (lo1 i x a1 ex) (le2 (Nat.le_refl _) hj eb0 ey)
    rcases List.mem_append.mp hy with hy | hy
    ·rcases mem y hy with ⟨j,b1,b2,ey⟩ | ⟨j,b1,b2,ey⟩
     ·exact le1 (by omega) b2 ex ey
     ·exact lb j b1 ey
    ·obtain ⟨j,q1,q2,ey⟩:=mem_dropA hy
     exact lb j (by omega) ey
 by_cases c3:n1 - k<=nb
 ·rw [if_pos c3]
  refine wpS_bind (mergeLo_ok L h rfl (fun x hx=>by obtain ⟨i,q1,q2,e⟩:=mem_drop_take hx; exact hS x (by simpa using Array.mem_of_getElem? e)) (fun x hx=>by obtain ⟨i,q1,q2,e⟩:=mem_drop_take hx; exact hS x (by simpa using Array.mem_of_getElem? e)) sX sY (by omega) (by omega) (fun x y ex ey=>?_) (fun x hx y hy=>?_) fun gl m hm=>?_)
  ·have:y=b0:=by
    rw [ext_get (by omega),show n1 + 0=n1 by omega,eb0] at ey
    cases ey; rfl
   subst this
   exact FX x (Array.mem_toList_iff.mpr (Array.mem_of_getElem? ex))
  ·rw [last x hx]; exact L.as (FY y hy)
  ·exact wpS_bind (wpS_modify (wpS_bind (wpS_get (wpS_pure (behind m hm _ rfl rfl pend1)))))
 ·rw [if_neg c3]
  refine wpS_bind (mergeHi_ok X rfl (by omega) (by omega) (fun x hx y hy=>?_) (fun x y ex hy=>?_) fun gl m hm=>?_)
  ·rw [first x hx]; exact L.as (FX y hy)
  ·have:x=al:=by
    rw [zX,ext_get (by omega),show k + (n1 - k - 1)=n1 - 1 by omega,eal] at ex
    cases ex; rfl
   rw [this]; exact L.as (FY y hy)
  ·exact wpS_bind (wpS_modify (wpS_bind (wpS_get (wpS_pure (behind m hm _ rfl rfl pend1)))))
end
noncomputable def vat (arr:Array Keyed) (i:Nat):Keyed:=arr[i]?.getD default
noncomputable def Up (lt:Keyed->Keyed->Bool) (arr:Array Keyed) (i j:Nat):Prop:=∀ p q,i<=p->p<=q->q < j->lt (vat arr q) (vat arr p)=false
noncomputable def Dn (lt:Keyed->Keyed->Bool) (arr:Array Keyed) (i j:Nat):Prop:=∀ p q,i<=p->p<=q->q < j->lt (vat arr p) (vat arr q)=false
noncomputable def Evn (lt:Keyed->Keyed->Bool) (arr:Array Keyed) (i j:Nat):Prop:=∀ p q,i<=p->p < j->i<=q->q < j->lt (vat arr p) (vat arr q)=false
structure Chg (lo:Nat) (arr arr':Array Keyed):Prop where
 prm:arr'.Perm arr
 low:∀ k,k < lo->arr'[k]?=arr[k]?
theorem Chg.rfl {lo:Nat} {arr:Array Keyed}:Chg lo arr arr:=⟨Array.Perm.refl _,fun _ _=>Eq.refl _⟩
theorem Chg.trans {lo:Nat} {a b c:Array Keyed} (x:Chg lo a b) (y:Chg lo b c):Chg lo a c:=⟨y.prm.trans x.prm,fun k h=>(y.low k h).trans (x.low k h)⟩
theorem Chg.size {lo:Nat} {a b:Array Keyed} (x:Chg lo a b):b.size=a.size:=x.prm.size_eq
theorem Chg.mem {lo:Nat} {a b:Array Keyed} (x:Chg lo a b) {S:Keyed->Prop} (h:∀ z ∈ a.toList,S z):∀ z ∈ b.toList,S z:=fun z hz=>h z ((Array.perm_iff_toList_perm.mp x.prm).mem_iff.mp hz)
noncomputable abbrev mir (arr:Array Keyed) (i j:Nat):Array Keyed:=mirror arr i j ((j - i) / 2)
theorem chg_mir {lo i j:Nat} {arr:Array Keyed} (hj:j<=arr.size) (hi:lo<=i):Chg lo arr (mir arr i j):=⟨mirror_perm _ _ _ _,fun k hk=>by rw [getElem?_mirror_all hj,if_neg (by omega)]⟩
theorem vat_mir {i j:Nat} {arr:Array Keyed} (hj:j<=arr.size) (k:Nat):vat (mir arr i j) k=if i<=k/\k < j then vat arr (i + j - 1 - k) else vat arr k:=by
 unfold vat
 rw [getElem?_mirror_all hj]
 split<;>rfl
theorem chg_bub {lo src d:Nat} {arr:Array Keyed} (hs:src < arr.size) (hd:lo + d<=src):Chg lo arr (bubble arr src d):=⟨bubble_perm _ _ _,fun k hk=>by rw [getElem?_bubble hs d (by omega),if_neg (by omega),if_neg (by omega)]⟩
theorem vat_bub {src d:Nat} {arr:Array Keyed} (hs:src < arr.size) (hd:d<=src) (k:Nat):vat (bubble arr src d) k=if k=src - d then vat arr src else if src - d < k/\k<=src then vat arr (k - 1) else vat arr k:=by
 unfold vat
 rw [getElem?_bubble hs d hd]
 split
 ·rfl
 ·split<;>rfl
section
variable {lt:Keyed->Keyed->Bool} {arr:Array Keyed} {i j:Nat}
theorem Up.one (L:LtK lt):Up lt arr i (i + 1):=fun p q h1 h2 h3=>by
 obtain rfl:p=q:=by omega
 exact L.irr _
theorem Up.more (L:LtK lt) (h:Up lt arr i j) (hij:i < j) (e:lt (vat arr j) (vat arr (j - 1))=false):Up lt arr i (j + 1):=fun p q h1 h2 h3=>by
 by_cases hq:q < j
 ·exact h p q h1 h2 hq
 ·obtain rfl:q=j:=by omega
  by_cases hp:p=q
  ·subst hp; exact L.irr _
  ·exact L.tr (h p (q - 1) h1 (by omega) (by omega)) e
theorem Dn.more (L:LtK lt) (h:Dn lt arr i j) (hij:i < j) (e:lt (vat arr (j - 1)) (vat arr j)=false):Dn lt arr i (j + 1):=fun p q h1 h2 h3=>by
 by_cases hq:q < j
 ·exact h p q h1 h2 hq
 ·obtain rfl:q=j:=by omega
  by_cases hp:p=q
  ·subst hp; exact L.irr _
  ·exact L.tr e (h p (q - 1) h1 (by omega) (by omega))
theorem Up.mir (h:Dn lt arr i j) (hj:j<=arr.size):Up lt (mir arr i j) i j:=fun p q h1 h2 h3=>by
 rw [vat_mir hj,vat_mir hj,if_pos (by omega),if_pos (by omega)]
 exact h _ _ (by omega) (by omega) (by omega)
theorem Dn.even {m n:Nat} (L:LtK lt) (h:Dn lt arr i j) (hm:i<=m) (hn:n<=j) (hj:j<=arr.size) (e:Evn lt arr m n):Dn lt (mir arr m n) i j:=fun p q h1 h2 h3=>by
 rw [vat_mir (by omega),vat_mir (by omega)]
 by_cases cp:m<=p/\p < n
 ·rw [if_pos cp]
  by_cases cq:m<=q/\q < n
  ·rw [if_pos cq]; exact e _ _ (by omega) (by omega) (by omega) (by omega)
  ·rw [if_neg cq]; exact h _ _ (by omega) (by omega) h3
 ·rw [if_neg cp]
  by_cases cq:m<=q/\q < n
  ·rw [if_pos cq]; exact h _ _ h1 (by omega) (by omega)
  ·rw [if_neg cq]; exact h _ _ h1 h2 h3
end
section
variable {prog:Program} {w:World} {A:Around} {E:Value->Shared->Prop} {s:Shared} {lt:Keyed->Keyed->Bool} {κ:SortKind} {S:Keyed->Prop} {arr:Array Keyed} {pe:Array (Nat × Nat × Nat)} {gl:Nat}
theorem at_ok (hS:∀ x ∈ arr.toList,S x) {i:Nat} (h:i < arr.size):arr[i]?=some (vat arr i)/\S (vat arr i):=by
 have e:arr[i]?=some arr[i]:=Array.getElem?_eq_getElem h
 have v:vat arr i=arr[i]:=by unfold vat; rw [e]; rfl
 rw [v]
 exact ⟨e,hS _ (by simp)⟩
theorem ltAt_ok {i j:Nat} {Q:Option Bool->SortSt->Prop} (h:AnsK prog w A s κ lt S) (hS:∀ x ∈ arr.toList,S x) (hi:i < arr.size) (hj:j < arr.size) (q:Q (some (lt (vat arr i) (vat arr j))) (SortSt.mk' κ arr pe gl none)) :
  wpS (model prog w) A E s (ltAt' i j) Q (SortSt.mk' κ arr pe gl none):=by
 rw [ltAt'_eq]
 refine wpS_bind (wpS_get ?_)
 exact wpS_bind (elem_ok (at_ok hS hi).1 (wpS_bind (elem_ok (at_ok hS hj).1 (ltk_ok h rfl (at_ok hS hi).2 (at_ok hS hj).2 q))))
theorem rev_ok {i j:Nat} {Q:Unit->SortSt->Prop} (q:Q () (SortSt.mk' κ (mir arr i j) pe gl none)):wpS (model prog w) A E s (reverseSlice' i j) Q (SortSt.mk' κ arr pe gl none):=by
 rw [reverseSlice'_eq]; exact wpS_modify q
noncomputable def upB (lo:Nat) (_:Nat) (z:Option (Option Nat) × Nat):StateT SortSt Sem (ForInStep (Option (Option Nat) × Nat)) :=
 ltAt' (lo + z.2) (lo + z.2 - 1) >>= fun t=>match t with
  | some c=>if c=true then pure (.done (none,z.2)) else pure (.yield (none,z.2 + 1))
  | _=>pure (.done (some none,z.2))
theorem up_ok {lo n nrem:Nat} {Q:Option (Option Nat) × Nat->SortSt->Prop} (L:LtK lt) (h:AnsK prog w A s κ lt S) (hS:∀ x ∈ arr.toList,S x) (hz:lo + nrem<=arr.size) (h1:1<=n) (h2:n<=nrem) (u:Up lt arr lo (lo + n))
  (q:∀ m,n<=m->m<=nrem->Up lt arr lo (lo + m)->(m=nrem\/lt (vat arr (lo + m)) (vat arr (lo + m - 1))=true)->Q (none,m) (SortSt.mk' κ arr pe gl none)) :
  wpS (model prog w) A E s (forIn [n:nrem] ((none,n):Option (Option Nat) × Nat) (upB lo)) Q (SortSt.mk' κ arr pe gl none):=by
 refine wpS_forRange (I:=fun x c st'=>st'=SortSt.mk' κ arr pe gl none/\c=(none,x)/\Up lt arr lo (lo + x)) ?_ ?_ ⟨rfl,rfl,u⟩
 ·rintro x c st' hx1 hx2 ⟨rfl,rfl,u'⟩
  unfold upB
  refine wpS_bind (ltAt_ok h hS (by dsimp only; omega) (by dsimp only; omega) ?_)
  dsimp only
  cases e:lt (vat arr (lo + x)) (vat arr (lo + x - 1)) with
  | true=>exact wpS_pure (q x hx1 (by omega) u' (.inr e))
  | false=>exact wpS_pure ⟨rfl,rfl,Up.more (j:=lo + x) L u' (by omega) e⟩
 ·rintro c st' ⟨rfl,rfl,u'⟩
  rw [show max n nrem=nrem by omega] at u' ⊢
  exact q nrem h2 (Nat.le_refl _) u' (.inl rfl)
noncomputable def cntE (lo n nrem:Nat):StateT SortSt Sem (Option Nat) :=
 reverseSlice' lo (lo + n) >>= fun _=>forIn [n:nrem] ((none,n):Option (Option Nat) × Nat) (upB lo) >>= fun z=>match z.1 with
  | some r=>pure r
  | none=>pure (some z.2)
structure CntQ (lt:Keyed->Keyed->Bool) (κ:SortKind) (pe:Array (Nat × Nat × Nat)) (gl lo nrem:Nat) (arr:Array Keyed) (Q:Option Nat->SortSt->Prop):Prop where
 q:∀ m arr',1<=m->m<=nrem->Chg lo arr arr'->Up lt arr' lo (lo + m)->Q (some m) (SortSt.mk' κ arr' pe gl none)
theorem CntQ.chg {lo nrem:Nat} {arr':Array Keyed} {Q:Option Nat->SortSt->Prop} (x:CntQ lt κ pe gl lo nrem arr Q) (c:Chg lo arr arr'):CntQ lt κ pe gl lo nrem arr' Q:=⟨fun m a h1 h2 c' u=>x.q m a h1 h2 (c.trans c') u⟩
theorem cntE_ok {lo n nrem:Nat} {Q:Option Nat->SortSt->Prop} (L:LtK lt) (h:AnsK prog w A s κ lt S) (hS:∀ x ∈ arr.toList,S x) (hz:lo + nrem<=arr.size) (h1:1<=n) (h2:n<=nrem) (d:Dn lt arr lo (lo + n)) (q:CntQ lt κ pe gl lo nrem arr Q) :
  wpS (model prog w) A E s (cntE lo n nrem) Q (SortSt.mk' κ arr pe gl none):=by
 unfold cntE
 have c:Chg lo arr (mir arr lo (lo + n)):=chg_mir (by omega) (Nat.le_refl _)
 refine wpS_bind (rev_ok (wpS_bind (up_ok L h (c.mem hS) (by rw [c.size]; exact hz) h1 h2 (Up.mir d (by omega)) fun m hm1 hm2 u _=>?_)))
 exact wpS_pure (q.q m _ (by omega) hm2 c u)
noncomputable def dnB (lo:Nat) (_:Nat) (z:Option (Option Nat) × Nat × Nat):StateT SortSt Sem (ForInStep (Option (Option Nat) × Nat × Nat)) :=
 ltAt' (lo + z.2.1) (lo + z.2.1 - 1) >>= fun t=>match t with
  | some c=>if c=true then (if z.2.2 > 0 then reverseSlice' (lo + z.2.1 - (z.2.2 + 1)) (lo + z.2.1) >>= fun _=>pure (.yield (none,z.2.1 + 1,0)) else pure (.yield (none,z.2.1 + 1,0)))
   else ltAt' (lo + z.2.1 - 1) (lo + z.2.1) >>= fun t'=>match t' with
    | some c'=>if c'=true then pure (.done (none,z.2.1,z.2.2)) else pure (.yield (none,z.2.1 + 1,z.2.2 + 1))
    | _=>pure (.done (some none,z.2.1,z.2.2))
  | _=>pure (.done (some none,z.2.1,z.2.2))
noncomputable def cntD (lo n nrem:Nat):StateT SortSt Sem (Option Nat) :=
 liftM (rule "list.sort.descending-run") >>= fun _=>forIn [n + 1:nrem] ((none,n + 1,0):Option (Option Nat) × Nat × Nat) (dnB lo) >>= fun z=>match z.1 with
  | some r=>pure r
  | none=>if z.2.2 > 0 then reverseSlice' (lo + z.2.1 - (z.2.2 + 1)) (lo + z.2.1) >>= fun _=>cntE lo z.2.1 nrem else cntE lo z.2.1 nrem
theorem cntD_ok {lo n nrem:Nat} {Q:Option Nat->SortSt->Prop} (L:LtK lt) (h:AnsK prog w A s κ lt S) (hS:∀ x ∈ arr.toList,S x) (hz:lo + nrem<=arr.size) (h2:n + 1<=nrem) (d:Dn lt arr lo (lo + (n + 1))) (q:CntQ lt κ pe gl lo nrem arr Q) :
  wpS (model prog w) A E s (cntD lo n nrem) Q (SortSt.mk' κ arr pe gl none):=by
 unfold cntD
 refine wpS_bind (wpS_lift (wpAny_rule ⟨rfl,?_⟩))
 refine wpS_bind (wpS_mono (wpS_forRange (I:=fun x c st'=>∃ arr' e,st'=SortSt.mk' κ arr' pe gl none/\c=(none,x,e)/\Chg lo arr arr'/\Dn lt arr' lo (lo + x)/\e + 1<=x/\Evn lt arr' (lo + x - (e + 1)) (lo + x))
  (Q:=fun c st'=>∃ arr' x e,x<=nrem/\n + 1<=x/\st'=SortSt.mk' κ arr' pe gl none/\c=(none,x,e)/\Chg lo arr arr'/\Dn lt arr' lo (lo + x)/\e + 1<=x/\Evn lt arr' (lo + x - (e + 1)) (lo + x)) ?_ ?_
   ⟨arr,0,rfl,rfl,Chg.rfl,d,by omega,fun p q a1 a2 a3 a4=>by obtain rfl:p=q:=(by omega); exact L.irr _⟩) ?_)
 ·rintro x c st' hx1 hx2 ⟨ar,e,rfl,rfl,c,d,he,ev⟩
  have hz':lo + nrem<=ar.size:=by rw [c.size]; exact hz
  have hS':=c.mem hS
  unfold dnB
  refine wpS_bind (ltAt_ok h hS' (by dsimp only; omega) (by dsimp only; omega) ?_)
  dsimp only
  have one:∀ (ar':Array Keyed),Evn lt ar' (lo + (x + 1) - (0 + 1)) (lo + (x + 1)):=fun ar' p q a1 a2 a3 a4=>by obtain rfl:p=q:=(by omega); exact L.irr _
  cases e1:lt (vat ar (lo + x)) (vat ar (lo + x - 1)) with
  | true =>
   rw [if_pos rfl]
   by_cases hq:e > 0
   ·rw [if_pos hq]
    have c':Chg lo ar (mir ar (lo + x - (e + 1)) (lo + x)):=chg_mir (by omega) (by omega)
    refine wpS_bind (rev_ok (wpS_pure ⟨_,0,rfl,rfl,c.trans c',?_,by omega,one _⟩))
    refine Dn.more (j:=lo + x) L (d.even L (by omega) (Nat.le_refl _) (by omega) ev) (by omega) ?_
    rw [vat_mir (by omega),vat_mir (by omega),if_pos (by omega),if_neg (by omega)]
    exact L.tr (L.as e1) (ev _ _ (by omega) (by omega) (by omega) (by omega))
   ·rw [if_neg hq]
    exact wpS_pure ⟨_,0,rfl,rfl,c,Dn.more (j:=lo + x) L d (by omega) (L.as e1),by omega,one _⟩
  | false =>
   rw [if_neg (by simp)]
   refine wpS_bind (ltAt_ok h hS' (by omega) (by omega) ?_)
   cases e2:lt (vat ar (lo + x - 1)) (vat ar (lo + x)) with
   | true=>exact wpS_pure ⟨_,_,_,by omega,hx1,rfl,rfl,c,d,he,ev⟩
   | false =>
    refine wpS_pure ⟨_,e + 1,rfl,rfl,c,Dn.more (j:=lo + x) L d (by omega) e2,by omega,?_⟩
    -- x is even with the one before
    have toL:∀ p,lo + (x + 1) - (e + 1 + 1)<=p->p < lo + x->lt (vat ar p) (vat ar (lo + x))=false/\lt (vat ar (lo + x)) (vat ar p)=false:=fun p a1 a2 =>
     ⟨L.tr e2 (ev p (lo + x - 1) (by omega) a2 (by omega) (by omega)),L.tr (ev (lo + x - 1) p (by omega) (by omega) (by omega) a2) e1⟩
    intro p q a1 a2 a3 a4
    by_cases hp:p < lo + x
    ·by_cases hq:q < lo + x
     ·exact ev p q (by omega) hp (by omega) hq
     ·obtain rfl:q=lo + x:=by omega
      exact (toL p a1 hp).1
    ·obtain rfl:p=lo + x:=by omega
     by_cases hq:q < lo + x
     ·exact (toL q a3 hq).2
     ·obtain rfl:q=lo + x:=by omega
      exact L.irr _
 ·rintro c st' ⟨ar,e,rfl,rfl,c,d,he,ev⟩
  rw [show max (n + 1) nrem=nrem by omega] at *
  exact ⟨_,_,_,Nat.le_refl _,h2,rfl,rfl,c,d,he,ev⟩
 ·rintro c st' ⟨ar,x,e,hx,hx1,rfl,rfl,c,d,he,ev⟩
  have hz':lo + nrem<=ar.size:=by rw [c.size]; exact hz
  have hS':=c.mem hS
  dsimp only
  by_cases hq:e > 0
  ·rw [if_pos hq]
   have c':Chg lo ar (mir ar (lo + x - (e + 1)) (lo + x)):=chg_mir (by omega) (by omega)
   exact wpS_bind (rev_ok (cntE_ok L h (c'.mem hS') (by rw [c'.size]; exact hz') (by omega) hx (d.even L (by omega) (Nat.le_refl _) (by omega) ev) (q.chg (c.trans c'))))
  ·rw [if_neg hq]
   exact cntE_ok L h hS' hz' (by omega) hx d (q.chg c)
theorem count_eq (lo nrem:Nat):countRun' lo nrem=(forIn [1:nrem] ((none,1):Option (Option Nat) × Nat) (upB lo) >>= fun z=>match z.1 with
  | some r=>pure r
  | none=>if (z.2 == nrem)=true then pure (some z.2) else if z.2 > 1 then ltAt' lo (lo + z.2 - 1) >>= fun t=>match t with
    | some c=>if c=true then pure (some z.2) else reverseSlice' lo (lo + z.2) >>= fun _=>cntD lo z.2 nrem
    | _=>pure none
   else cntD lo z.2 nrem):=by
 delta countRun'
 refine congrArg (Bind.bind _) (funext fun z=>?_)
 obtain ⟨r,n⟩:=z
 cases r with
 | some r=>rfl
 | none =>
  dsimp only
  refine ite_congr rfl (fun _=>rfl) fun _=>?_
  refine ite_congr rfl (fun _=>?_) fun _=>?_
  ·refine congrArg (Bind.bind _) (funext fun t=>?_)
   cases t with
   | none=>rfl
   | some c =>
    dsimp only
    refine ite_congr rfl (fun _=>rfl) fun _=>?_
    refine congrArg (Bind.bind _) (funext fun _=>?_)
    unfold cntD
    refine congrArg (Bind.bind _) (funext fun _=>?_)
    refine congrArg (Bind.bind _) (funext fun z=>?_)
    obtain ⟨r,n,e⟩:=z
    cases r with
    | some r=>rfl
    | none =>
     dsimp only
     refine ite_congr rfl (fun _=>?_) fun _=>?_
     ·refine congrArg (Bind.bind _) (funext fun _=>?_)
      unfold cntE
      refine congrArg (Bind.bind _) (funext fun _=>?_)
      refine congrArg (Bind.bind _) (funext fun z=>?_)
      obtain ⟨r,n⟩:=z
      cases r<;>rfl
     ·unfold cntE
      refine congrArg (Bind.bind _) (funext fun _=>?_)
      refine congrArg (Bind.bind _) (funext fun z=>?_)
      obtain ⟨r,n⟩:=z
      cases r<;>rfl
  ·unfold cntD
   refine congrArg (Bind.bind _) (funext fun _=>?_)
   refine congrArg (Bind.bind _) (funext fun z=>?_)
   obtain ⟨r,n,e⟩:=z
   cases r with
   | some r=>rfl
   | none =>
    dsimp only
    refine ite_congr rfl (fun _=>?_) fun _=>?_
    ·refine congrArg (Bind.bind _) (funext fun _=>?_)
     unfold cntE
     refine congrArg (Bind.bind _) (funext fun _=>?_)
     refine congrArg (Bind.bind _) (funext fun z=>?_)
     obtain ⟨r,n⟩:=z
     cases r<;>rfl
    ·unfold cntE
     refine congrArg (Bind.bind _) (funext fun _=>?_)
     refine congrArg (Bind.bind _) (funext fun z=>?_)
     obtain ⟨r,n⟩:=z
     cases r<;>rfl
theorem countRun_ok {lo nrem:Nat} {Q:Option Nat->SortSt->Prop} (L:LtK lt) (h:AnsK prog w A s κ lt S) (hS:∀ x ∈ arr.toList,S x) (hz:lo + nrem<=arr.size) (h1:1<=nrem) (q:CntQ lt κ pe gl lo nrem arr Q) :
  wpS (model prog w) A E s (countRun' lo nrem) Q (SortSt.mk' κ arr pe gl none):=by
 rw [count_eq]
 refine wpS_bind (up_ok L h hS hz (Nat.le_refl 1) h1 (Up.one L) fun n hn1 hn2 u hor=>?_)
 dsimp only
 by_cases e1:(n == nrem)=true
 ·rw [if_pos e1]
  exact wpS_pure (q.q n arr hn1 hn2 Chg.rfl u)
 rw [if_neg e1]
 have e1':¬ n=nrem:=by simpa using e1
 have hlt:=hor.resolve_left e1'
 by_cases e2:n > 1
 ·rw [if_pos e2]
  refine wpS_bind (ltAt_ok h hS (by omega) (by omega) ?_)
  cases e3:lt (vat arr lo) (vat arr (lo + n - 1)) with
  | true=>exact wpS_pure (q.q n arr hn1 hn2 Chg.rfl u)
  | false =>
   have ev:Evn lt arr lo (lo + n):=fun p r a1 a2 a3 a4=>by
    -- all between the first and the last are even
    have b1:lt (vat arr p) (vat arr lo)=false:=u lo p (Nat.le_refl _) a1 a2
    have b2:lt (vat arr (lo + n - 1)) (vat arr r)=false:=u r (lo + n - 1) a3 (by omega) (by omega)
    have b3:lt (vat arr (lo + n - 1)) (vat arr p)=false:=u p (lo + n - 1) a1 (by omega) (by omega)
    have b4:lt (vat arr r) (vat arr lo)=false:=u lo r (Nat.le_refl _) a3 a4
    have b5:lt (vat arr lo) (vat arr r)=false:=L.tr b2 e3
    exact L.tr b5 b1
   have c:Chg lo arr (mir arr lo (lo + n)):=chg_mir (by omega) (Nat.le_refl _)
   refine wpS_bind (rev_ok ?_)
   refine cntD_ok (n:=n) L h (c.mem hS) (by rw [c.size]; exact hz) (by omega) ?_ (q.chg c)
   have dn:Dn lt arr lo (lo + n):=fun p r a1 a2 a3=>ev p r a1 (by omega) (by omega) a3
   refine Dn.more (j:=lo + n) L (dn.even L (Nat.le_refl _) (Nat.le_refl _) (by omega) ev) (by omega) ?_
   rw [vat_mir (by omega),vat_mir (by omega),if_pos (by omega),if_neg (by omega)]
   exact L.tr (L.as hlt) (ev _ _ (by omega) (by omega) (by omega) (by omega))
 ·rw [if_neg e2]
  obtain rfl:n=1:=by omega
  refine cntD_ok (n:=1) L h hS hz (by omega) ?_ q
  exact Dn.more (j:=lo + 1) L (fun p r a1 a2 a3=>by obtain rfl:p=r:=(by omega); exact L.irr _) (by omega) (L.as hlt)
end
section
variable {prog:Program} {w:World} {A:Around} {E:Value->Shared->Prop} {s:Shared} {lt:Keyed->Keyed->Bool} {κ:SortKind} {S:Keyed->Prop} {arr:Array Keyed} {pe:Array (Nat × Nat × Nat)} {gl:Nat}
theorem binSort_ok {lo n ok:Nat} {Q:Bool->SortSt->Prop} (L:LtK lt) (h:AnsK prog w A s κ lt S) (hS:∀ x ∈ arr.toList,S x) (hz:lo + n<=arr.size) (h2:ok<=n) (u:Up lt arr lo (lo + ok))
  (q:∀ arr',Chg lo arr arr'->Up lt arr' lo (lo + n)->Q true (SortSt.mk' κ arr' pe gl none)):wpS (model prog w) A E s (binarySort' lo n ok) Q (SortSt.mk' κ arr pe gl none):=by
 rw [binarySort'_eq]
 refine wpS_bind (wpS_mono (wpS_forRange (I:=fun k c st'=>∃ ar,c=(none,())/\st'=SortSt.mk' κ ar pe gl none/\Chg lo arr ar/\Up lt ar lo (lo + min k n))
  (Q:=fun c st'=>∃ ar,c=(none,())/\st'=SortSt.mk' κ ar pe gl none/\Chg lo arr ar/\Up lt ar lo (lo + n)) ?_ ?_ ⟨arr,rfl,rfl,Chg.rfl,fun i j a1 a2 a3=>?_⟩) ?_)
 ·rintro k c st' k1 k2 ⟨ar,rfl,rfl,c,u'⟩
  rw [show min k n=k by omega] at u'
  have hz':lo + n<=ar.size:=by rw [c.size]; exact hz
  have hS':=c.mem hS
  refine wpS_bind (wpS_mono (wpS_forRange (I:=fun x c st''=>∃ l r,c=(none,l,r)/\st''=SortSt.mk' κ ar pe gl none/\l<=r/\r<=k/\r - l<=k - x ∧
    (∀ i,i < l->lt (vat ar (lo + k)) (vat ar (lo + i))=false)/\(∀ i,r<=i->i < k->lt (vat ar (lo + k)) (vat ar (lo + i))=true))
   (Q:=fun c st''=>∃ l r,c=(none,l,r)/\st''=SortSt.mk' κ ar pe gl none/\l<=k ∧
    (∀ i,i < l->lt (vat ar (lo + k)) (vat ar (lo + i))=false)/\(∀ i,l<=i->i < k->lt (vat ar (lo + k)) (vat ar (lo + i))=true)) ?_ ?_ ⟨0,k,rfl,rfl,by omega,by omega,by omega,fun i hi=>by omega,fun i a1 a2=>by omega⟩) ?_)
  ·rintro x c st'' _ hxk ⟨l,r,rfl,rfl,b1,b2,b3,b4,b5⟩
   dsimp only
   by_cases hge:l ≥ r
   ·rw [if_pos hge]
    obtain rfl:l=r:=by omega
    exact wpS_pure ⟨l,l,rfl,rfl,b2,b4,b5⟩
   ·rw [if_neg hge]
    refine wpS_bind (ltAt_ok h hS' (by omega) (by omega) ?_)
    cases e:lt (vat ar (lo + k)) (vat ar (lo + (l + r) / 2)) with
    | true =>
     refine wpS_pure ⟨_,_,rfl,rfl,by omega,by omega,by omega,b4,fun i a1 a2=>?_⟩
     cases e':lt (vat ar (lo + k)) (vat ar (lo + i)) with
     | true=>rfl
     | false=>rw [L.tr (u' (lo + (l + r) / 2) (lo + i) (by omega) (by omega) (by omega)) e'] at e; cases e
    | false=>exact wpS_pure ⟨_,_,rfl,rfl,by omega,by omega,by omega,fun i a1=>L.tr (u' (lo + i) (lo + (l + r) / 2) (by omega) (by omega) (by omega)) e,b5⟩
  ·rintro c st'' ⟨l,r,rfl,rfl,b1,b2,b3,b4,b5⟩
   obtain rfl:l=r:=by omega
   exact ⟨l,l,rfl,rfl,b2,b4,b5⟩
  ·rintro c st'' ⟨l,r,rfl,rfl,b2,b4,b5⟩
   show wpS _ _ _ _ (moveDown' (lo + k) (lo + l) >>= fun _=>pure (ForInStep.yield (none,()))) _ _
   rw [moveDown'_eq]
   have c':Chg lo ar (bubble ar (lo + k) (lo + k - (lo + l))):=chg_bub (by omega) (by omega)
   refine wpS_bind (wpS_modify (wpS_pure ⟨_,rfl,rfl,c.trans c',?_⟩))
   rw [show min (k + 1) n=k + 1 by omega]
   show Up lt (bubble ar (lo + k) (lo + k - (lo + l))) lo (lo + (k + 1))
   intro i j a1 a2 a3
   rw [vat_bub (by omega) (by omega),vat_bub (by omega) (by omega),show lo + k - (lo + k - (lo + l))=lo + l by omega]
   -- where the two lie
   have below:∀ i,lo<=i->i < lo + l->lt (vat ar (lo + k)) (vat ar i)=false:=fun i q1 q2=>by
    have:=b4 (i - lo) (by omega)
    rwa [show lo + (i - lo)=i by omega] at this
   have above:∀ i,lo + l<=i->i < lo + k->lt (vat ar i) (vat ar (lo + k))=false:=fun i q1 q2=>by
    have:=b5 (i - lo) (by omega) (by omega)
    rw [show lo + (i - lo)=i by omega] at this
    exact L.as this
   by_cases ci:i=lo + l
   ·rw [if_pos ci]
    by_cases cj:j=lo + l
    ·rw [if_pos cj]; exact L.irr _
    ·rw [if_neg cj,if_pos (by omega)]; exact above _ (by omega) (by omega)
   ·rw [if_neg ci]
    by_cases ci2:lo + l < i/\i<=lo + k
    ·rw [if_pos ci2,if_neg (by omega),if_pos (by omega)]
     exact u' _ _ (by omega) (by omega) (by omega)
    ·rw [if_neg ci2]
     by_cases cj:j=lo + l
     ·rw [if_pos cj]; exact below _ a1 (by omega)
     ·rw [if_neg cj]
      by_cases cj2:lo + l < j/\j<=lo + k
      ·rw [if_pos cj2]; exact u' _ _ a1 (by omega) (by omega)
      ·rw [if_neg cj2]; exact u' _ _ a1 a2 (by omega)
 ·rintro c st' ⟨ar,rfl,rfl,c,u'⟩
  rw [show min (max (max ok 1) n) n=n by omega] at u'
  exact ⟨ar,rfl,rfl,c,u'⟩
 ·by_cases h0:ok=0
  ·obtain rfl:i=j:=by omega
   exact L.irr _
  ·exact u i j a1 a2 (by omega)
 ·rintro c st' ⟨ar,rfl,rfl,c,u'⟩
  exact wpS_pure (q ar c u')
theorem up_list (h:Up lt arr 0 arr.size):SrtL lt arr.toList:=by
 refine List.pairwise_iff_getElem.mpr fun i j hi hj hij=>?_
 rw [Array.length_toList] at hi hj
 have:=h i j (Nat.zero_le _) (by omega) hj
 unfold vat at this
 rw [Array.getElem?_eq_getElem hi,Array.getElem?_eq_getElem hj] at this
 simpa using this
theorem up_take {n:Nat} (h:Up lt arr 0 n) (hn:n<=arr.size):SrtL lt (arr.toList.take n):=by
 refine List.pairwise_iff_getElem.mpr fun i j hi hj hij=>?_
 rw [List.length_take,Array.length_toList] at hi hj
 have:=h i j (Nat.zero_le _) (by omega) (by omega)
 unfold vat at this
 rw [Array.getElem?_eq_getElem (by omega),Array.getElem?_eq_getElem (by omega)] at this
 simpa using this
theorem up_drop {n:Nat} (h:Up lt arr n arr.size):SrtL lt (arr.toList.drop n):=by
 refine List.pairwise_iff_getElem.mpr fun i j hi hj hij=>?_
 rw [List.length_drop,Array.length_toList] at hi hj
 have:=h (n + i) (n + j) (by omega) (by omega) (by omega)
 unfold vat at this
 rw [Array.getElem?_eq_getElem (by omega),Array.getElem?_eq_getElem (by omega)] at this
 simpa using this
theorem up_keep {arr':Array Keyed} {n:Nat} (c:Chg n arr arr') (h:Up lt arr 0 n):Up lt arr' 0 n:=fun i j a1 a2 a3=>by
 unfold vat
 rw [c.low i (by omega),c.low j a3]
 exact h i j a1 a2 a3
theorem second_ok {n:Nat} {P:ForInStep (Option Unit × Nat)->SortSt->Prop} {g:Nat->Option Unit × Unit->StateT SortSt Sem (ForInStep (Option Unit × Unit))}
  (hg:∀ x,wpS (model prog w) A E s (g x (none,())) (fun r st'=>r=.done (none,())/\st'=SortSt.mk' κ arr #[(0,n,0)] gl none) (SortSt.mk' κ arr #[(0,n,0)] gl none)) {F:Option Unit × Unit->StateT SortSt Sem (ForInStep (Option Unit × Nat))}
  (hF:wpS (model prog w) A E s (F (none,())) P (SortSt.mk' κ arr #[(0,n,0)] gl none)):wpS (model prog w) A E s (forIn [0:64] (none,()) g >>= F) P (SortSt.mk' κ arr #[(0,n,0)] gl none):=by
 refine wpS_bind (wpS_mono (wpS_forRange (I:=fun x c st'=>c=(none,())/\st'=SortSt.mk' κ arr #[(0,n,0)] gl none) (Q:=fun c st'=>c=(none,())/\st'=SortSt.mk' κ arr #[(0,n,0)] gl none) ?_ (fun c st' hh=>hh) ⟨rfl,rfl⟩) ?_)
 ·rintro x c st' _ _ ⟨rfl,rfl⟩
  refine wpS_mono (hg x) ?_
  rintro r st' ⟨rfl,rfl⟩
  exact ⟨rfl,rfl⟩
 ·rintro c st' ⟨rfl,rfl⟩
  exact hF
theorem runs64_ok {Q:Unit->SortSt->Prop} (L:LtK lt) (h:AnsK prog w A s κ lt S) (hS:∀ x ∈ arr.toList,S x) (hz:arr.size=64)
  (q:∀ st',(arrOf st').toList.Perm arr.toList->SrtL lt (arrOf st').toList->failedOf st'=none->Q () st'):wpS (model prog w) A E s sortRuns' Q (SortSt.mk' κ arr #[] gl none):=by
 rw [sortRuns'_eq]
 refine wpS_bind (wpS_get ?_)
 have hsz:(arrOf (SortSt.mk' κ arr #[] gl none)).size=64:=hz
 have hmr:minRun' 64 64 0=32:=by decide
 dsimp only
 simp only [hsz,hmr]
 -- the first loop: one or two runs
 refine wpS_bind (wpS_mono (wpS_forRange
  (I:=fun x c st'=>(x=0/\c=(none,0)/\st'=SortSt.mk' κ arr #[] gl none) ∨
   (x=1/\∃ n ar,c=(none,n)/\1<=n/\n<=64/\(n < 64->32<=n)/\Chg 0 arr ar/\Up lt ar 0 n/\st'=SortSt.mk' κ ar #[(0,n,0)] gl none) ∨
   (2<=x/\∃ n ar p,c=(none,64)/\1<=n/\n < 64/\Chg 0 arr ar/\Up lt ar 0 n/\Up lt ar n 64/\st'=SortSt.mk' κ ar #[(0,n,p),(n,64 - n,0)] gl none))
  (Q:=fun c st'=>c=(none,64)/\((∃ ar,Chg 0 arr ar/\Up lt ar 0 64/\st'=SortSt.mk' κ ar #[(0,64,0)] gl none) ∨
   (∃ n ar p,1<=n/\n < 64/\Chg 0 arr ar/\Up lt ar 0 n/\Up lt ar n 64/\st'=SortSt.mk' κ ar #[(0,n,p),(n,64 - n,0)] gl none))) ?_ ?_ (.inl ⟨rfl,rfl,rfl⟩)) ?_)
 ·rintro x c st' _ hx (⟨rfl,rfl,rfl⟩ | ⟨rfl,n,ar,rfl,n1,n2,n3,c,u,rfl⟩ | ⟨hx2,n,ar,p,rfl,n1,n2,c,u1,u2,rfl⟩)
  ·-- the first run
   dsimp only
   rw [if_neg (by omega)]
   simp only [Nat.sub_zero,Nat.zero_add]
   refine wpS_bind (countRun_ok L h hS (by omega) (by omega) ⟨fun m ar m1 m2 c u=>?_⟩)
   dsimp only
   by_cases hm:m < 32
   ·rw [if_pos hm]
    refine wpS_bind (wpS_lift (wpAny_rule ⟨rfl,?_⟩))
    refine wpS_bind (binSort_ok L h (c.mem hS) (by rw [c.size]; omega) (by omega) u fun ar' c' u'=>?_)
    simp only [Bool.not_true,Bool.false_eq_true,if_false]
    refine wpS_bind (wpS_get ?_)
    refine wpS_bind (wpS_modify (wpS_pure (.inr (.inl ⟨by first | rfl | trivial,_,ar',rfl,by omega,by omega,by omega,c.trans c',?_,rfl⟩))))
    simpa using u'
   ·rw [if_neg hm]
    refine wpS_bind (wpS_get ?_)
    refine wpS_bind (wpS_modify (wpS_pure (.inr (.inl ⟨by first | rfl | trivial,m,ar,rfl,by omega,by omega,by omega,c,?_,rfl⟩))))
    simpa using u
  ·-- the second one
   dsimp only
   by_cases hn:n ≥ 64
   ·rw [if_pos hn]
    obtain rfl:n=64:=by omega
    exact wpS_pure ⟨rfl,.inl ⟨ar,c,u,rfl⟩⟩
   rw [if_neg hn]
   have za:ar.size=64:=by rw [c.size]; exact hz
   refine wpS_bind (countRun_ok L h (c.mem hS) (by omega) (by omega) ⟨fun m ar2 m1 m2 c2 u2=>?_⟩)
   have z2:ar2.size=64:=by rw [c2.size]; exact za
   dsimp only
   by_cases hm:m < 32
   ·rw [if_pos hm]
    refine wpS_bind (wpS_lift (wpAny_rule ⟨rfl,?_⟩))
    refine wpS_bind (binSort_ok L h (c2.mem (c.mem hS)) (by omega) (by omega) u2 fun ar3 c3 u3=>?_)
    simp only [Bool.not_true,Bool.false_eq_true,if_false]
    rw [show n + min (64 - n) 32=64 by omega] at u3 ⊢
    rw [show min (64 - n) 32=64 - n by omega]
    refine wpS_bind (wpS_get ?_)
    rw [show (pendingOf (SortSt.mk' κ ar3 #[(0,n,0)] gl none)).back?=some (0,n,0) from rfl]
    dsimp only
    refine second_ok (fun x=>wpS_bind (wpS_get ?_)) ?_
    ·rw [show (if (pendingOf (SortSt.mk' κ ar3 #[(0,n,0)] gl none)).size > 1 then (pendingOf (SortSt.mk' κ ar3 #[(0,n,0)] gl none))[(pendingOf (SortSt.mk' κ ar3 #[(0,n,0)] gl none)).size - 2]? else none)=none from rfl]
     exact wpS_pure ⟨rfl,rfl⟩
    ·exact wpS_bind (wpS_modify (wpS_bind (wpS_modify (wpS_pure (.inr (.inr ⟨by omega,n,ar3,power' 64 (2 * 0 + n) (2 * 0 + n + n + (64 - n)) 64,by first | rfl | (show (none,n + _)=_; congr 1; omega),n1,by omega,c.trans ⟨(c2.trans c3).prm,fun k hk=>by omega⟩,up_keep (c2.trans c3) u,u3,rfl⟩))))))
   ·rw [if_neg hm]
    obtain rfl:m=64 - n:=by omega
    rw [show n + (64 - n)=64 by omega] at u2 ⊢
    refine wpS_bind (wpS_get ?_)
    rw [show (pendingOf (SortSt.mk' κ ar2 #[(0,n,0)] gl none)).back?=some (0,n,0) from rfl]
    dsimp only
    refine second_ok (fun x=>wpS_bind (wpS_get ?_)) ?_
    ·rw [show (if (pendingOf (SortSt.mk' κ ar2 #[(0,n,0)] gl none)).size > 1 then (pendingOf (SortSt.mk' κ ar2 #[(0,n,0)] gl none))[(pendingOf (SortSt.mk' κ ar2 #[(0,n,0)] gl none)).size - 2]? else none)=none from rfl]
     exact wpS_pure ⟨rfl,rfl⟩
    ·exact wpS_bind (wpS_modify (wpS_bind (wpS_modify (wpS_pure (.inr (.inr ⟨by omega,n,ar2,power' 64 (2 * 0 + n) (2 * 0 + n + n + (64 - n)) 64,by first | rfl | (show (none,n + _)=_; congr 1; omega),n1,by omega,c.trans ⟨c2.prm,fun k hk=>by omega⟩,up_keep c2 u,u2,rfl⟩))))))
  ·dsimp only
   rw [if_pos (by omega)]
   exact wpS_pure ⟨rfl,.inr ⟨n,ar,p,n1,n2,c,u1,u2,rfl⟩⟩
 ·rintro c st' (⟨hx,_⟩ | ⟨hx,_⟩ | ⟨hx2,n,ar,p,rfl,n1,n2,c,u1,u2,rfl⟩)
  ·omega
  ·omega
  ·exact ⟨rfl,.inr ⟨n,ar,p,n1,n2,c,u1,u2,rfl⟩⟩
 ·rintro c st' ⟨rfl,(⟨ar,c,u,rfl⟩ | ⟨n,ar,p,n1,n2,c,u1,u2,rfl⟩)⟩
  ·have za:ar.size=64:=by rw [c.size]; exact hz
   dsimp only
   refine wpS_bind (wpS_mono (wpS_forRange (I:=fun _ c st'=>c=(none,())/\st'=SortSt.mk' κ ar #[(0,64,0)] gl none) (Q:=fun c st'=>c=(none,())/\st'=SortSt.mk' κ ar #[(0,64,0)] gl none) ?_ (fun c st' hh=>hh) ⟨rfl,rfl⟩) ?_)
   ·rintro x c st' _ _ ⟨rfl,rfl⟩
    refine wpS_bind (wpS_get ?_)
    rw [if_pos (show (pendingOf (SortSt.mk' κ ar #[(0,64,0)] gl none)).size<=1 from Nat.le_refl 1)]
    exact wpS_pure ⟨rfl,rfl⟩
   ·rintro c st' ⟨rfl,rfl⟩
    exact wpS_pure (q _ (Array.perm_iff_toList_perm.mp c.prm) (up_list (by rw [za]; exact u)) rfl)
  ·have za:ar.size=64:=by rw [c.size]; exact hz
   dsimp only
   refine wpS_bind (wpS_mono (wpS_forRange (I:=fun x c st'=>c=(none,())/\((x=0/\st'=SortSt.mk' κ ar #[(0,n,p),(n,64 - n,0)] gl none)\/(1<=x/\(arrOf st').toList.Perm ar.toList/\SrtL lt (arrOf st').toList/\failedOf st'=none/\(pendingOf st').size=1)))
    (Q:=fun c st'=>c=(none,())/\(arrOf st').toList.Perm ar.toList/\SrtL lt (arrOf st').toList/\failedOf st'=none) ?_ ?_ ⟨rfl,.inl ⟨rfl,rfl⟩⟩) ?_)
   ·rintro x c st' _ _ ⟨rfl,(⟨rfl,rfl⟩ | ⟨hx,a1,a2,a3,a4⟩)⟩
    ·refine wpS_bind (wpS_get ?_)
     rw [if_neg (show ¬ (pendingOf (SortSt.mk' κ ar #[(0,n,p),(n,64 - n,0)] gl none)).size<=1 from (by decide:¬ 2<=1))]
     refine wpS_bind (mergeAt_ok L h (c.mem hS) n1 (by omega) (by omega) (up_take u1 (by omega)) (up_drop (by rw [za]; exact u2)) fun st' a1 a2 a3 a4=>?_)
     exact wpS_pure ⟨rfl,.inr ⟨by omega,a1,a2,a3,a4⟩⟩
    ·refine wpS_bind (wpS_get ?_)
     rw [if_pos (by rw [a4]; exact Nat.le_refl 1)]
     exact wpS_pure ⟨rfl,a1,a2,a3⟩
   ·rintro c st' ⟨rfl,(⟨hx,_⟩ | ⟨hx,a1,a2,a3,a4⟩)⟩
    ·omega
    ·exact ⟨rfl,a1,a2,a3⟩
   ·rintro c' st' ⟨rfl,a1,a2,a3⟩
    exact wpS_pure (q _ (a1.trans (Array.perm_iff_toList_perm.mp c.prm)) a2 a3)
end
end M
namespace M
open PySem PySem.W PySem.Spec PyProof.Rows L2

section
variable {prog:Program} {w:World} {A:Around} {E:Value->Shared->Prop} {s:Shared}
theorem zip_self2 {vs:List Value} (_:vs.length < 2):(vs.toArray.zip vs.toArray).map (·.2)=vs.toArray:=by
 rw [List.zip_toArray,List.map_toArray]
 exact congrArg _ (List.map_snd_zip (Nat.le_refl _))
theorem list_sort_short {a:Addr} {vs:List Value} {n:Nat} {P:PySem.Fin->Shared->Prop} (ho:s.heap.get? a=some (seqObj "list" vs.toArray n)) (h2:vs.length < 2)
  (h:P (.done (.ret .none)) { s with heap:=sortedHeap s.heap a vs vs.toArray }):wpAny (model prog w) A (Builtin.«list.sort» ⟨[.ref a],[]⟩) P E s:=by
 rw [list_sort_plain]
 have ha:a < s.heap.objs.size:=Heap.lt_size ho
 refine wpAny_bind (listItems_at ho rfl ?_)
 refine wpAny_bind (listUpdate_at ho rfl ?_ (by rw [List.size_toArray,sizeLine_eq]; omega) (Nat.zero_le _))
 obtain ⟨e1,ho1⟩:∃ e1,(s.heap.update a (Obj.mapSeq fun _=>#[])).get? a=some (seqObj "list" #[] e1):=⟨_,get?_update_seq ho (fun _=>#[])⟩
 refine wpAny_bind (seqEpoch_at ho1 rfl ?_)
 refine wpAny_bind (wpAny_newTuple ?_ (by show vs.length<=_; rw [sizeLine_eq]; omega))
 refine wpAny_bind (wpAny_newList ?_ (Nat.zero_le _))
 refine wpAny_holding ?_
 have ho6:(((s.heap.update a (Obj.mapSeq fun _=>#[])).push (seqObj "tuple" vs.toArray 0)).push (seqObj "list" #[] 0)).get? a=some (seqObj "list" #[] e1):=by
  rw [Heap.get?_push_ne _ _ _ (by rw [size_push',Heap.size_update]; exact Nat.ne_of_lt (Nat.lt_succ_of_lt ha)),Heap.get?_push_ne _ _ _ (by rw [Heap.size_update]; exact Nat.ne_of_lt ha)]
  exact ho1
 show wpAny (model prog w) A _ P E { s with heap:=((s.heap.update a (Obj.mapSeq fun _=>#[])).push (seqObj "tuple" vs.toArray 0)).push (seqObj "list" #[] 0) }
 dsimp only
 have h2':vs.toArray.size < 2:=by simpa using h2
 rw [if_pos h2',if_pos h2']
 refine wpAny_bind (wpAny_pure ?_)
 rw [StateT.run_pure]
 refine wpAny_bind (wpAny_pure ?_)
 dsimp only
 refine wpAny_bind (seqEpoch_at ho6 rfl ?_)
 have hout:(arrOf (SortSt.mk' general' (vs.toArray.zip vs.toArray) #[] 7 none)).map (·.2)=vs.toArray:=by
  exact zip_self2 h2
 refine wpAny_bind (listUpdate_at ho6 rfl ?_ (Nat.zero_le _) (by rw [hout,List.size_toArray,sizeLine_eq]; omega))
 simp only [bne_self_eq_false,Bool.false_eq_true,if_false]
 rw [hout]
 exact wpAny_pure h
theorem sorted_short {l:Addr} {vs:List Value} {Q:Value->Shared->Prop} (hl:s.heap.IsList l vs.toArray) (h2:vs.length < 2)
  (h:Q (.ref (s.heap.objs.size + 1)) { s with heap:=sortedAll s.heap vs vs.toArray }):wpAny (model prog w) A (call (.builtin "sorted") [.ref l]) Q E s:=by
 refine Calls.call_function_entry kind_sorted plain_sorted entry_sorted (args_sorted1 _) ?_
 unfold Builtin.«sorted»
 refine wpAny_bind (m:=checkCount "sorted" 1 1 _) (wpAny_pure ?_)
 refine wpAny_bind (collect_list hl ?_ (by rw [sizeLine_eq]; omega))
 refine wpAny_bind (wpAny_newList ?_ (by rw [sizeLine_eq]; omega))
 have hsz:((s.heap.push (seqObj "list" #[] 0)).update s.heap.objs.size (Obj.mapSeq (·++vs.toArray))).objs.size=s.heap.objs.size + 1:=by
  rw [Heap.size_update,size_push']
 have hoL:(((s.heap.push (seqObj "list" #[] 0)).update s.heap.objs.size (Obj.mapSeq (·++vs.toArray))).push (seqObj "list" vs.toArray 0)).get? (s.heap.objs.size + 1)=some (seqObj "list" vs.toArray 0):=by
  rw [<-hsz]; exact Heap.get?_push_size _ rfl
 show wpAny _ _ _ _ _ { s with heap:=((s.heap.push (seqObj "list" #[] 0)).update s.heap.objs.size (Obj.mapSeq (·++vs.toArray))).push (seqObj "list" vs.toArray 0) }
 rw [hsz]
 refine wpAny_bind (wpAny_holding (wpAny_call_entry slot_list_sort ⟨_,hoL,rfl⟩ entry_list_sort (list_sort_short hoL h2 ⟨_,rfl,?_⟩) (args_list_sort _)))
 exact wpAny_pure ⟨_,rfl,h⟩
end

section
variable {prog:Program} {w:World} {A:Around} {E:Value->Shared->Prop} {s:Shared}
theorem list_sort64 {a:Addr} {vs:List Value} {n:Nat} {P:PySem.Fin->Shared->Prop} {κ:SortKind} {lt:Keyed->Keyed->Bool} {S:Keyed->Prop} (ho:s.heap.get? a=some (seqObj "list" vs.toArray n)) (h64:vs.length=64) (L:LtK lt) (hS:∀ x ∈ (vs.toArray.zip vs.toArray).toList,S x)
  (hk:∀ h1:Heap,(∀ b o,b ≠ a->s.heap.get? b=some o->h1.get? b=some o)->(∀ Q:SortKind->Shared->Prop,Q κ { s with heap:=h1 }->wpAny (model prog w) A (keyKind' vs.toArray) Q (fun _ _=>False) { s with heap:=h1 })/\AnsK prog w A { s with heap:=h1 } κ lt S)
  (h:∀ arr:Array Keyed,arr.toList.Perm (vs.toArray.zip vs.toArray).toList->SrtL lt arr.toList->P (.done (.ret .none)) { s with heap:=sortedHeap s.heap a vs (arr.map (·.2)) }):wpAny (model prog w) A (Builtin.«list.sort» ⟨[.ref a],[]⟩) P E s:=by
 rw [list_sort_plain]
 have ha:a < s.heap.objs.size:=Heap.lt_size ho
 refine wpAny_bind (listItems_at ho rfl ?_)
 refine wpAny_bind (listUpdate_at ho rfl ?_ (by rw [List.size_toArray,sizeLine_eq]; omega) (Nat.zero_le _))
 obtain ⟨e1,ho1⟩:∃ e1,(s.heap.update a (Obj.mapSeq fun _=>#[])).get? a=some (seqObj "list" #[] e1):=⟨_,get?_update_seq ho (fun _=>#[])⟩
 refine wpAny_bind (seqEpoch_at ho1 rfl ?_)
 refine wpAny_bind (wpAny_newTuple ?_ (by show vs.length<=_; rw [sizeLine_eq]; omega))
 refine wpAny_bind (wpAny_newList ?_ (Nat.zero_le _))
 refine wpAny_holding ?_
 have ho6:(((s.heap.update a (Obj.mapSeq fun _=>#[])).push (seqObj "tuple" vs.toArray 0)).push (seqObj "list" #[] 0)).get? a=some (seqObj "list" #[] e1):=by
  rw [Heap.get?_push_ne _ _ _ (by rw [size_push',Heap.size_update]; exact Nat.ne_of_lt (Nat.lt_succ_of_lt ha)),Heap.get?_push_ne _ _ _ (by rw [Heap.size_update]; exact Nat.ne_of_lt ha)]
  exact ho1
 have old6:∀ b o,b ≠ a->s.heap.get? b=some o->(((s.heap.update a (Obj.mapSeq fun _=>#[])).push (seqObj "tuple" vs.toArray 0)).push (seqObj "list" #[] 0)).get? b=some o:=fun b o hb e=>by
  have hlt:=Heap.lt_size e
  rw [Heap.get?_push_ne _ _ _ (by rw [size_push',Heap.size_update]; exact Nat.ne_of_lt (Nat.lt_succ_of_lt hlt)),Heap.get?_push_ne _ _ _ (by rw [Heap.size_update]; exact Nat.ne_of_lt hlt),Heap.get?_update_ne _ _ _ _ hb]
  exact e
 obtain ⟨k1,k2⟩:=hk _ old6
 show wpAny (model prog w) A _ P E { s with heap:=((s.heap.update a (Obj.mapSeq fun _=>#[])).push (seqObj "tuple" vs.toArray 0)).push (seqObj "list" #[] 0) }
 dsimp only
 have h2':¬ vs.toArray.size < 2:=by rw [List.size_toArray]; omega
 rw [if_neg h2',if_neg h2']
 refine wpAny_bind (wpAny_mono (k1 (fun κ' s'=>κ'=κ/\s'=_) ⟨rfl,rfl⟩) (fun κ' s' hk'=>?_) fun _ _ x=>x.elim)
 obtain ⟨rfl,rfl⟩:=hk'
 refine wpAny_bind (wpAny_mono (runs64_ok (E:=E) (Q:=fun _ st'=>(arrOf st').toList.Perm (vs.toArray.zip vs.toArray).toList/\SrtL lt (arrOf st').toList/\failedOf st'=none) L k2 hS (by simp [h64]) fun st' a1 a2 a3=>⟨a1,a2,a3⟩) ?_ fun _ _ x=>x)
 rintro ⟨⟨⟩,st'⟩ s' ⟨rfl,a1,a2,a3⟩
 dsimp only
 have hsz:((arrOf st').map (·.2)).size=64:=by
  rw [Array.size_map,<-Array.length_toList,a1.length_eq]; simp [h64]
 refine wpAny_bind (seqEpoch_at ho6 rfl ?_)
 refine wpAny_bind (listUpdate_at ho6 rfl ?_ (Nat.zero_le _) (by rw [hsz,sizeLine_eq]; omega))
 rw [a3]
 simp only [bne_self_eq_false,Bool.false_eq_true,if_false]
 exact wpAny_pure (h _ a1 a2)
theorem sorted64 {l:Addr} {vs:List Value} {Q:Value->Shared->Prop} {κ:SortKind} {lt:Keyed->Keyed->Bool} {S:Keyed->Prop} (hl:s.heap.IsList l vs.toArray) (h64:vs.length=64) (L:LtK lt) (hS:∀ x ∈ (vs.toArray.zip vs.toArray).toList,S x)
  (hk:∀ (A:Around) (h1:Heap),(∀ b o,s.heap.get? b=some o->h1.get? b=some o)->(∀ Q:SortKind->Shared->Prop,Q κ { s with heap:=h1 }->wpAny (model prog w) A (keyKind' vs.toArray) Q (fun _ _=>False) { s with heap:=h1 })/\AnsK prog w A { s with heap:=h1 } κ lt S)
  (h:∀ arr:Array Keyed,arr.toList.Perm (vs.toArray.zip vs.toArray).toList->SrtL lt arr.toList->Q (.ref (s.heap.objs.size + 1)) { s with heap:=sortedAll s.heap vs (arr.map (·.2)) }):wpAny (model prog w) A (call (.builtin "sorted") [.ref l]) Q E s:=by
 refine Calls.call_function_entry kind_sorted plain_sorted entry_sorted (args_sorted1 _) ?_
 unfold Builtin.«sorted»
 refine wpAny_bind (m:=checkCount "sorted" 1 1 _) (wpAny_pure ?_)
 refine wpAny_bind (collect_list hl ?_ (by rw [sizeLine_eq]; omega))
 refine wpAny_bind (wpAny_newList ?_ (by rw [sizeLine_eq]; omega))
 have hsz:((s.heap.push (seqObj "list" #[] 0)).update s.heap.objs.size (Obj.mapSeq (·++vs.toArray))).objs.size=s.heap.objs.size + 1:=by
  rw [Heap.size_update,size_push']
 have hoL:(((s.heap.push (seqObj "list" #[] 0)).update s.heap.objs.size (Obj.mapSeq (·++vs.toArray))).push (seqObj "list" vs.toArray 0)).get? (s.heap.objs.size + 1)=some (seqObj "list" vs.toArray 0):=by
  rw [<-hsz]; exact Heap.get?_push_size _ rfl
 have old:∀ b o,s.heap.get? b=some o->(((s.heap.push (seqObj "list" #[] 0)).update s.heap.objs.size (Obj.mapSeq (·++vs.toArray))).push (seqObj "list" vs.toArray 0)).get? b=some o:=fun b o e=>by
  have hlt:=Heap.lt_size e
  rw [Heap.get?_push_ne _ _ _ (by rw [hsz]; exact Nat.ne_of_lt (Nat.lt_succ_of_lt hlt)),Heap.get?_update_ne _ _ _ _ (Nat.ne_of_lt hlt),Heap.get?_push_ne _ _ _ (Nat.ne_of_lt hlt)]
  exact e
 show wpAny _ _ _ _ _ { s with heap:=((s.heap.push (seqObj "list" #[] 0)).update s.heap.objs.size (Obj.mapSeq (·++vs.toArray))).push (seqObj "list" vs.toArray 0) }
 rw [hsz]
 refine wpAny_bind (wpAny_holding (wpAny_call_entry slot_list_sort ⟨_,hoL,rfl⟩ entry_list_sort (list_sort64 hoL h64 L hS (fun h1 keep=>hk _ h1 fun b o e=>keep b o (fun z=>?_) (old b o e)) fun arr a1 a2=>⟨_,rfl,?_⟩) (args_list_sort _)))
 ·have hlt:=Heap.lt_size e
  rw [z] at hlt
  exact absurd hlt (Nat.not_lt.mpr (Nat.le_succ _))
 ·exact wpAny_pure ⟨_,rfl,h arr a1 a2⟩
end
theorem perm_lift {α β:Type} {f:α->β}:∀ {l₁ l₂:List β},l₁.Perm l₂->∀ m:List α,l₂=m.map f->∃ m':List α,m'.Perm m/\l₁=m'.map f:=by
 intro l₁ l₂ h
 induction h with
 | nil=>intro m e; exact ⟨m,List.Perm.refl _,e⟩
 | cons x _ ih =>
  intro m e
  cases m with
  | nil=>cases e
  | cons y m =>
   obtain ⟨e1,e2⟩:=List.cons.inj e
   subst e1
   obtain ⟨m',h1,rfl⟩:=ih m e2
   exact ⟨y :: m',h1.cons y,rfl⟩
 | swap x y l =>
  intro m e
  match m,e with
  | a :: b :: m,e =>
   obtain ⟨e1,e2⟩:=List.cons.inj e
   obtain ⟨e3,e4⟩:=List.cons.inj e2
   subst e1 e3 e4
   exact ⟨b :: a :: m,List.Perm.swap _ _ _,rfl⟩
 | trans _ _ ih1 ih2 =>
  intro m e
  obtain ⟨m1,p1,e1⟩:=ih2 m e
  obtain ⟨m2,p2,e2⟩:=ih1 m1 e1
  exact ⟨m2,p2.trans p1,e2⟩
theorem lexLt_irr:∀ a:List Int,HT.lexLt a a=false
 | []=>rfl
 | x :: xs=>by rw [HT.lexLt_cons,if_pos rfl]; exact lexLt_irr xs
theorem lexLt_as:∀ {a b:List Int},HT.lexLt a b=true->HT.lexLt b a=false
 | [],[],h=>by cases h
 | [],_ :: _,_=>rfl
 | _ :: _,[],h=>by cases h
 | x :: xs,y :: ys,h=>by
  rw [HT.lexLt_cons] at h ⊢
  by_cases e:x=y
  ·rw [if_pos e] at h; rw [if_pos e.symm]; exact lexLt_as h
  ·rw [if_neg e] at h
   rw [if_neg (Ne.symm e)]
   have:=of_decide_eq_true h
   exact decide_eq_false (by omega)
theorem lexLt_tr:∀ {a b c:List Int},HT.lexLt b a=false->HT.lexLt c b=false->HT.lexLt c a=false
 | a,b,[],h1,h2=>by
  cases b with
  | nil=>exact h1
  | cons y ys=>cases h2
 | [],b,z :: zs,h1,h2=>rfl
 | x :: xs,[],z :: zs,h1,h2=>by cases h1
 | x :: xs,y :: ys,z :: zs,h1,h2=>by
  rw [HT.lexLt_cons] at h1 h2 ⊢
  by_cases e1:y=x
  ·rw [if_pos e1] at h1
   subst e1
   by_cases e2:z=y
   ·rw [if_pos e2] at h2 ⊢; exact lexLt_tr h1 h2
   ·rw [if_neg e2] at h2 ⊢; exact h2
  ·rw [if_neg e1] at h1
   have q1:=of_decide_eq_false h1
   by_cases e2:z=y
   ·subst e2; rw [if_neg e1]; exact h1
   ·rw [if_neg e2] at h2
    have q2:=of_decide_eq_false h2
    rw [if_neg (by omega)]
    exact decide_eq_false (by omega)
theorem lexLt_eq:∀ {a b:List Int},HT.lexLt a b=false->HT.lexLt b a=false->a=b
 | [],[],_,_=>rfl
 | [],_ :: _,h,_=>by cases h
 | _ :: _,[],_,h=>by cases h
 | x :: xs,y :: ys,h1,h2=>by
  rw [HT.lexLt_cons] at h1 h2
  by_cases e:x=y
  ·rw [if_pos e] at h1; rw [if_pos e.symm] at h2
   rw [e,lexLt_eq h1 h2]
  ·rw [if_neg e] at h1; rw [if_neg (Ne.symm e)] at h2
   have q1:=of_decide_eq_false h1
   have q2:=of_decide_eq_false h2
   omega
noncomputable def insK (k:List Int):List (List Int)->List (List Int)
 | []=>[k]
 | j :: r=>if HT.lexLt j k=true then j :: insK k r else k :: j :: r
noncomputable def sortK:List (List Int)->List (List Int)
 | []=>[]
 | k :: r=>insK k (sortK r)
noncomputable def Asc (l:List (List Int)):Prop:=l.Pairwise fun a b=>HT.lexLt b a=false
theorem insK_perm (k:List Int):∀ l,(insK k l).Perm (k :: l)
 | []=>List.Perm.refl _
 | j :: r=>by
  unfold insK
  split
  ·exact (List.Perm.cons j (insK_perm k r)).trans (List.Perm.swap k j r)
  ·exact List.Perm.refl _
theorem sortK_perm:∀ l,(sortK l).Perm l
 | []=>List.Perm.refl _
 | k :: r=>(insK_perm k (sortK r)).trans (List.Perm.cons k (sortK_perm r))
theorem insK_asc (k:List Int):∀ {l},Asc l->Asc (insK k l)
 | [],_=>List.Pairwise.cons (fun _ h=>by simp at h) List.Pairwise.nil
 | j :: r,h=>by
  unfold Asc at h
  rw [List.pairwise_cons] at h
  unfold insK
  split
  ·rename_i c
   refine List.Pairwise.cons (fun b hb=>?_) (insK_asc k h.2)
   rcases List.mem_cons.mp ((insK_perm k r).mem_iff.mp hb) with rfl | hb
   ·exact lexLt_as c
   ·exact h.1 b hb
  ·rename_i c
   have c:HT.lexLt j k=false:=by simpa using c
   refine List.Pairwise.cons (fun b hb=>?_) (List.Pairwise.cons h.1 h.2)
   rcases List.mem_cons.mp hb with rfl | hb
   ·exact c
   ·exact lexLt_tr c (h.1 b hb)
theorem sortK_asc:∀ l,Asc (sortK l)
 | []=>List.Pairwise.nil
 | k :: r=>insK_asc k (sortK_asc r)
theorem asc_unique:∀ {a b:List (List Int)},Asc a->Asc b->a.Perm b->a=b
 | [],b,_,_,p=>(List.Perm.nil_eq p)
 | x :: xs,[],_,_,p=>by have:=p.length_eq; simp at this
 | x :: xs,y :: ys,ha,hb,p=>by
  unfold Asc at ha hb
  rw [List.pairwise_cons] at ha hb
  have e:x=y:=by
   have hx:x ∈ y :: ys:=p.mem_iff.mp List.mem_cons_self
   have hy:y ∈ x :: xs:=p.mem_iff.mpr List.mem_cons_self
   rcases List.mem_cons.mp hx with h | h
   ·exact h
   rcases List.mem_cons.mp hy with h' | h'
   ·exact h'.symm
   ·exact lexLt_eq (hb.1 x h) (ha.1 y h') |>.symm ▸ rfl
  subst e
  rw [asc_unique ha.2 hb.2 (List.Perm.cons_inv p)]
theorem sortK_unique {a b:List (List Int)} (ha:Asc a) (p:a.Perm b):a=sortK b:=asc_unique ha (sortK_asc b) (p.trans (sortK_perm b).symm)

section
variable {X:Cx}
noncomputable def TupAt (H:Hp) (y:V) (k:List Int):Prop:=∃ a,y=.ref a/\H a=some (.tup (k.map V.int))
noncomputable def rSorted (K:PySem.W.Frag):List V->Hp->VK->Prop:=fun xs H Q=>∃ (p:Addr) (ys:List V) (ks:List (List Int)),xs=[.ref p]/\SqL K H p ys/\Paired (TupAt H) ys ks/\(∀ k ∈ ks,k ≠ [])/\ks.length < 65 ∧
 ∀ l outs,H l=none->(∀ o ∈ outs,o ∈ ys)->Paired (TupAt H) outs (sortK ks)->Q (.ref l) (upd H l (.lst outs))
theorem paired_get {α β:Type} {F:α->β->Prop}:∀ {xs:List α} {ys:List β},Paired F xs ys->∀ (i:Nat) (x:α),xs[i]?=some x->∃ y,ys[i]?=some y/\F x y
 | _,_,.nil,i,x,h=>by simp at h
 | _,_,.cons r t,0,x,h=>by simp at h; subst h; exact ⟨_,rfl,r⟩
 | _,_,.cons r t,i + 1,x,h=>by
  obtain ⟨y,e,f⟩:=paired_get t i x (by simpa using h)
  exact ⟨y,by simpa using e,f⟩
theorem paired_map {α β:Type} {F:α->β->Prop} (xs:List α) (ys:List β) (dx:α) (dy:β) (h:Paired F xs ys):∀ (p:List Nat),(∀ i ∈ p,i < xs.length)->Paired F (p.map fun i=>xs.getD i dx) (p.map fun i=>ys.getD i dy)
 | [],_=>.nil
 | i :: r,hp=>by
  have hi:=hp i List.mem_cons_self
  obtain ⟨y,e,f⟩:=paired_get h i xs[i] (by simp [hi])
  refine .cons ?_ (paired_map xs ys dx dy h r fun j hj=>hp j (List.mem_cons_of_mem _ hj))
  dsimp only
  rw [List.getD_eq_getElem?_getD,List.getD_eq_getElem?_getD,e,List.getElem?_eq_getElem hi]
  exact f
theorem intItems {pins:List (Addr × Obj)} {σ:St} {H:Hp} {s:Shared} {y:V} {u:Value} {k:List Int} (I:Inv X pins σ H s) (h:TupAt H y k) (r:RelV y u):∃ a its,u=.ref a/\H a=some (.tup (k.map V.int))/\IsTup s.heap a its.toArray/\IntsAre its k:=by
 obtain ⟨a,rfl,ha⟩:=h
 cases r
 obtain ⟨its,rv,ht,hz⟩:=I.tuple (SqT.of ha)
 exact ⟨a,its,rfl,ha,ht,intsAre_of rv⟩
theorem lex_wp {prog:Program} {w:World} {A:Around} {s:Shared} {Q:Bool->Shared->Prop}:∀ (us us':List Value) (k k':List Int) (i:Nat),IntsAre us k->IntsAre us' k'->Q (HT.lexLt k k') s->∀ n n':Nat,n + k'.length=n' + k.length->KatLex prog w A true (decide (n < n')) Q (us.zip us') i s
 | [],us',k,k',i,h,h',hq,n,n',e=>by
  cases h
  rw [List.zip_nil_left]
  refine kat_nil ?_
  cases h' with
  | nil=>simp only [List.length_nil] at e; rw [HT.lexLt_nil_nil] at hq; rw [decide_eq_false (by omega)]; exact hq
  | cons c u hw=>simp only [List.length_nil,List.length_cons] at e; rw [HT.lexLt_nil_cons] at hq; rw [decide_eq_true (by omega)]; exact hq
 | u :: us,[],k,k',i,h,h',hq,n,n',e=>by
  cases h'
  rw [List.zip_nil_right]
  refine kat_nil ?_
  cases h with
  | cons c t hw=>simp only [List.length_nil,List.length_cons] at e; rw [HT.lexLt_cons_nil] at hq; rw [decide_eq_false (by omega)]; exact hq
 | u :: us,u' :: us',k,k',i,h,h',hq,n,n',e=>by
  cases h with
  | cons c t hw =>
   cases h' with
   | cons c' t' hw' =>
    rw [List.zip_cons_cons]
    rw [HT.lexLt_cons] at hq
    refine kat_cons (SeqAt.EqAt.int_int c t c' t' prog w _ _ ?_)
    by_cases ec:c=c'
    ·rw [if_pos ec] at hq
     rw [beq_iff_eq.mpr ec]
     exact kat_yes (lex_wp us us' _ _ (i + 1) hw hw' hq n n' (by simp only [List.length_cons] at e; omega))
    ·rw [if_neg ec] at hq
     rw [beq_eq_false_iff_ne.mpr ec]
     refine kat_no ?_
     by_cases hi:i=0
     ·subst hi; exact oneLt_int hq
     ·have:(true && i == 0)=false:=by simp [hi]
      rw [this]
      exact kat_one _ _ (PyProof.Rows.lt_int hq)
theorem katTups_of {pins:List (Addr × Obj)} {σ:St} {H:Hp} {s:Shared} (I:Inv X pins σ H s) {h:Heap} (keep:∀ b o u,H b=some u->s.heap.get? b=some o->h.get? b=some o):∀ {ys:List V} {us:List Value} {ks:List (List Int)},Paired (TupAt H) ys ks->Vals ys us->(∀ k ∈ ks,k ≠ []) →
  ∃ fs:List Value,KatTups h us fs/\fs.length=us.length/\∀ f ∈ fs,∃ i t,f=.int i t
 | _,_,_,.nil,.nil,_=>⟨[],KatTups.nil,rfl,fun f hf=>by simp at hf⟩
 | _,_,_,.cons t r,.cons v q,ne=>by
  obtain ⟨fs,h1,h2,h3⟩:=katTups_of I keep r q fun k hk=>ne k (List.mem_cons_of_mem _ hk)
  obtain ⟨a,its,rfl,hH,⟨o,e,c,n,d⟩,hi⟩:=intItems I t v
  cases hi with
  | nil=>exact absurd rfl (ne _ List.mem_cons_self)
  | cons i tk hw =>
   refine ⟨.int i tk :: fs,KatTups.cons (keep _ _ _ hH e) c d (by simp) h1,by simp [h2],fun f hf=>?_⟩
   rcases List.mem_cons.mp hf with rfl | hf
   ·exact ⟨i,tk,rfl⟩
   ·exact h3 f hf
theorem objOk_there {P:Program} {w:World} {H:Hp} {h:Heap} {a:Addr} {o:HO} (x:ObjOk P w H h a o):∃ ob,h.get? a=some ob:=by
 cases o with
 | lst xs=>obtain ⟨_,_,_,_,e⟩:=x; exact ⟨_,e⟩
 | tup xs=>obtain ⟨_,_,_,ob,e,_⟩:=x; exact ⟨_,e⟩
 | dK kvs=>obtain ⟨_,_,_,_,o,_,_,e,_⟩:=x; exact ⟨_,e⟩
 | dT kvs=>obtain ⟨_,_,_,_,o,_,_,e,_⟩:=x; exact ⟨_,e⟩
 | set S n=>obtain ⟨o,_,_,_,e,_⟩:=x; exact ⟨_,e⟩
 | ins C dx fs=>obtain ⟨_,_,_,e,_⟩:=x; exact ⟨_,e⟩
 | own y=>obtain ⟨_,e⟩:=x; exact ⟨_,e⟩
 | xd fs=>obtain ⟨_,⟨_,_,_,e,_⟩,_⟩:=x; exact ⟨_,e⟩
 | rng lo hi=>obtain ⟨_,_,_,e⟩:=x; exact ⟨_,e⟩
 | frz ob u=>obtain ⟨e,_⟩:=x; exact ⟨_,e⟩
 | tbl ps=>exact ⟨_,(show h.get? a=some _ from x)⟩
 | met f y=>exact ⟨_,(show h.get? a=some _ from x)⟩
 | ext φ=>obtain ⟨_,⟨_,e⟩,_⟩:=x; exact ⟨_,e⟩
theorem ledgerLaid {pins:List (Addr × Obj)} {σ:St} {H:Hp} {s s':Shared} {m:Str->Option Value} {D:Addr} {o:HO} (I:Inv X pins σ H s) (F:Fr X.base X.env.locals s.heap m) (F':Fr X.base X.env.locals s'.heap m)
  (keep:∀ b o,b ≠ X.env.locals->s.heap.get? b=some o->s'.heap.get? b=some o) (nD:s.heap.get? D=none) (new:ObjOk X.prog X.w (upd H D o) s'.heap D o) (os:s'.os=s.os) (bare:AllBare s'.gens):Inv X pins σ (upd H D o) s':=by
 obtain ⟨h',g',d',t',o'⟩:=s'
 have e:o'=s.os:=os
 subst e
 have neD:∀ b ob,s.heap.get? b=some ob->b ≠ D:=fun b ob e z=>by subst z; rw [nD] at e; cases e
 have hD:H D=none:=by
  cases q:H D with
  | none=>rfl
  | some u=>obtain ⟨ob,e⟩:=objOk_there (I.hok D u q); rw [nD] at e; cases e
 have neL:∀ b u,H b=some u->b ≠ X.env.locals:=fun b u e z=>by rw [z,I.free] at e; cases e
 refine I.step (g':=g') (d':=d') (t':=t') (ch:=[]) (fun b hb=>by simp at hb) (fun b ob hL _ _ e _=>keep b ob hL e) (fun b ob hL _ _ e _=>⟨ob.slots,keep b ob hL e⟩) (fun b ob _ e n=>by rw [upd_ne (neD b ob e)]; exact n)
  (fun b ob _ e=>?_) (fun b xs e=>by rw [upd_ne (ne_of_none e hD)]; exact e) (fun b u xs e=>by rw [upd_ne (ne_of_none e hD)]; exact e) (fun b ps e=>⟨#[],by rw [upd_ne (ne_of_none e hD),e]; simp⟩) (fun m' hm=>?_) (fun b u e=>?_) bare
 ·by_cases hb:b=X.env.locals
  ·obtain ⟨ob',_,_,e',_⟩:=F'.ns
   exact ⟨ob',by rw [hb]; exact e'⟩
  ·exact ⟨ob,keep b ob hb e⟩
 ·have:m'=m:=by
   obtain ⟨o1,es1,ep1,a1,a2,a3,a4⟩:=hm
   obtain ⟨o2,es2,ep2,b1,b2,b3,b4⟩:=F.ns
   rw [a1] at b1; cases b1
   rw [a2] at b2; cases b2
   funext x; rw [<-a4 x,<-b4 x]
  rw [this]; exact F'.ns
 ·by_cases hb:b=D
  ·subst hb; rw [upd_same] at e; cases e; exact new
  ·rw [upd_ne hb] at e
   refine (I.hok b u e).stay (fun c v hc q=>keep c v ?_ q) (fun c q=>by rw [upd_ne (ne_of_none q hD)]; exact q) fun c xs q=>by rw [upd_ne (ne_of_none q hD)]; exact q
   rcases hc with z | z
   ·rw [z]; exact neL b u e
   ·exact neL c _ z
theorem sort_core {A:Around} {pins:List (Addr × Obj)} {σ:St} {H:Hp} {s:Shared} {m:Str->Option Value} {ys:List V} {its:List Value} {ks:List (List Int)} {D:Addr} {e1:Nat} {h':Heap} {tk0:Nat} {Q:VK} (I:Inv X pins σ H s) (F:Fr X.base X.env.locals s.heap m)
  (pk:Paired (TupAt H) ys ks) (rv:Vals ys its) (ne:∀ k ∈ ks,k ≠ []) (h2:2<=its.length) (h64:its.length < 64) (F':Fr X.base X.env.locals h' m) (N':News X.base X.env.locals h' ((D,seqObj "list" #[] e1) :: allNews X.base s.heap X.env.locals)) (above:∀ q ∈ allNews X.base s.heap X.env.locals,q.1 < D)
  (q:∀ outs,H D=none->(∀ o ∈ outs,o ∈ ys)->Paired (TupAt H) outs (sortK ks)->Q (.ref D) (upd H D (.lst outs))) :
  wpAny (model X.prog X.w) A (keyKind' its.toArray) (fun κ s'=>(kas_sort its.length).kasWp (kas_ask X.prog X.w A κ its) (fun p s''=>KasFin X.base X.env.locals m D e1 (p.toList.map fun i=>its.getD i Value.none) (fun s3=>EP X pins σ Q (.ref D) s3) s'') s') (fun _ _=>False) { s with heap:=h',toks:=tk0 }:=by
  have l1:its.length=ks.length:=by rw [<-rv.length]; exact Paired.length pk
  have keepL:∀ {h2:Heap},Fr X.base X.env.locals h2 m->(∀ q ∈ allNews X.base s.heap X.env.locals,h2.get? q.1=some q.2)->∀ b o,b ≠ X.env.locals->s.heap.get? b=some o->h2.get? b=some o:=fun {h2} F2 N2 b o hb e=>by
   cases g:X.base.get? b with
   | some o'=>have:=I.bk b o' g; rw [e] at this; cases this; exact F2.keep b _ g
   | none=>exact N2 (b,o) (mem_allNews hb g e)
  have keep:=keepL F' fun q hq=>(N' q (List.mem_cons_of_mem _ hq)).1
  have nD:s.heap.get? D=none:=by
   cases e:s.heap.get? D with
   | none=>rfl
   | some o =>
    have hn:=N' (D,seqObj "list" #[] e1) List.mem_cons_self
    exact absurd (above (D,o) (mem_allNews hn.2.1 hn.2.2 e)) (Nat.lt_irrefl _)
  have neL:∀ b u,H b=some u->b ≠ X.env.locals:=fun b u e z=>by rw [z,I.free] at e; cases e
  obtain ⟨fs,kt,lf,fi⟩:=katTups_of I (h:=h') (fun b o u hu e=>keep b o (neL b u hu) e) pk rv ne
  refine kat_kind (T:=.type "int") kt (by omega) (fun v hv=>by obtain ⟨i,t,rfl⟩:=fi v hv; exact Looks.of_pure rfl) (by first | rfl | decide) ?_
  have L:LtOk fun i j=>HT.lexLt (ks.getD i []) (ks.getD j []):=⟨fun a=>lexLt_irr _,fun h1 h2=>lexLt_tr h1 h2,fun h=>lexLt_as h⟩
  refine kgo_wp (lt:=fun i j=>HT.lexLt (ks.getD i []) (ks.getD j [])) (n:=its.length) (P:=fun q=>Pm its.length q/\Sd (fun i j=>HT.lexLt (ks.getD i []) (ks.getD j [])) q its.length) (fun i j C hi hj hC=>?_) (fun pm ⟨hpm,hsd⟩=>?_) (sort_ok L (by omega))
  ·-- a question
   have at':∀ i,i < its.length->∃ a ws,its.getD i .none=.ref a/\IsTup h' a ws.toArray/\IntsAre ws (ks.getD i []):=fun i hi=>by
    have hyl:i < ys.length:=by rw [rv.length]; exact hi
    obtain ⟨k,ek,tk⟩:=paired_get pk i (ys[i]'hyl) (by simp [hyl])
    obtain ⟨u,eu,ru⟩:=rv.get (i:=i) (x:=ys[i]'hyl) (by simp [hyl])
    obtain ⟨a,ws,e1,hH,⟨o,g1,g2,g3⟩,g4⟩:=intItems I tk ru
    refine ⟨a,ws,by rw [List.getD_eq_getElem?_getD,eu,e1]; rfl,⟨o,keep _ _ (neL _ _ hH) g1,g2,g3⟩,by rw [List.getD_eq_getElem?_getD,ek]; exact g4⟩
   obtain ⟨a,ws,e1,⟨o,g1,g2,n,g3⟩,g4⟩:=at' i hi
   obtain ⟨a',ws',e1',⟨o',g1',g2',n',g3'⟩,g4'⟩:=at' j hj
   unfold kas_ask
   rw [e1,e1']
   have la:=g4.length
   have la':=g4'.length
   refine kat_lt g1 g3 g1' g3' ?_
   exact lex_wp ws ws' _ _ 0 g4 g4' hC _ _ (by simp only [List.size_toArray]; omega)
  ·-- the end
   have hpl:∀ i ∈ pm.toList,i < its.length:=fun i hi=>by
    have:i ∈ pm:=by simpa using hi
    have:=(hpm.mem_iff).mp this
    simpa using this
   have hys:ys.length=its.length:=rv.length
   have outs:=paired_map ys ks .non [] pk pm.toList fun i hi=>by rw [hys]; exact hpl i hi
   have outsV:Vals (pm.toList.map fun i=>ys.getD i .non) (pm.toList.map fun i=>its.getD i Value.none):=paired_map ys its .non .none rv pm.toList fun i hi=>by rw [hys]; exact hpl i hi
   have esort:(pm.toList.map fun i=>ks.getD i [])=sortK ks:=by
    refine sortK_unique ?_ ?_
    ·unfold Asc
     rw [List.pairwise_iff_getElem]
     intro i j hi hj hij
     simp only [List.length_map,Array.length_toList] at hi hj
     have hsz:=hpm.size
     have:=hsd i j (by omega) (by omega)
     simpa [Array.getD,hi,hj] using this
    ·have hp2:pm.toList.Perm (List.range its.length):=by simpa using Array.perm_iff_toList_perm.mp hpm
     have e2:(List.range its.length).map (fun i=>ks.getD i [])=ks:=by rw [l1]; exact range_getD ks []
     have:=hp2.map (fun i=>ks.getD i [])
     rw [e2] at this
     exact this
   rw [esort] at outs
   refine KasFin.intro (g:=fun o=>(D,o) :: allNews X.base s.heap X.env.locals) F' N' ?_ fun h2 c F2 N2=>?_
   ·exact UpdF.head fun p hp=>Nat.ne_of_lt (above p hp)
   ·have hD2:=(N2 (D,listOf (List.toArray (pm.toList.map fun i=>its.getD i Value.none)) c) List.mem_cons_self).1
    have I':Inv X pins σ (upd H D (.lst (pm.toList.map fun i=>ys.getD i .non))) { s with heap:=h2,toks:=tk0 }:=ledgerLaid (s':={ s with heap:=h2,toks:=tk0 }) I F F2 (keepL F2 fun q hq=>(N2 q (List.mem_cons_of_mem _ hq)).1) nD
     ⟨by rw [List.length_map,Array.length_toList,hpm.size,sizeLine_eq]; omega,_,c,outsV,hD2⟩ rfl I.bare
    have nH:H D=none:=by
     cases z:H D with
     | none=>rfl
     | some u=>obtain ⟨ob,e⟩:=objOk_there (I.hok D u z); rw [nD] at e; cases e
    exact ⟨.ref D,_,I',rfl,q _ nH (fun o ho=>by
     obtain ⟨i,hi,rfl⟩:=List.mem_map.mp ho
     have hi':i < ys.length:=by rw [hys]; exact hpl i hi
     rw [List.getD_eq_getElem?_getD,List.getElem?_eq_getElem hi']
     exact List.getElem_mem hi') outs⟩
theorem core64 {pins:List (Addr × Obj)} {σ:St} {H:Hp} {s:Shared} {ys:List V} {its:List Value} {ks:List (List Int)} (I:Inv X pins σ H s) (pk:Paired (TupAt H) ys ks) (rv:Vals ys its) (ne:∀ k ∈ ks,k ≠ []) (h64:its.length=64) :
  ∃ (κ:SortKind) (lt:Keyed->Keyed->Bool) (S:Keyed->Prop),LtK lt/\(∀ x ∈ (its.toArray.zip its.toArray).toList,S x) ∧
   (∀ (A:Around) (s':Shared),(∀ b o u,H b=some u->s.heap.get? b=some o->s'.heap.get? b=some o)->(∀ Q:SortKind->Shared->Prop,Q κ s'->wpAny (model X.prog X.w) A (keyKind' its.toArray) Q (fun _ _=>False) s')/\AnsK X.prog X.w A s' κ lt S) ∧
   ∀ arr:Array Keyed,arr.toList.Perm (its.toArray.zip its.toArray).toList->SrtL lt arr.toList->∃ outs,(∀ o ∈ outs,o ∈ ys)/\Paired (TupAt H) outs (sortK ks)/\Vals outs (arr.map (·.2)).toList:=by
 have l1:its.length=ks.length:=by rw [<-rv.length]; exact Paired.length pk
 have hys:ys.length=its.length:=rv.length
 -- each thing and its key
 have key:∀ i,i < its.length->∃ a,its.getD i .none=.ref a/\H a=some (.tup ((ks.getD i []).map V.int)):=fun i hi=>by
  have hyl:i < ys.length:=by omega
  obtain ⟨k,ek,tk⟩:=paired_get pk i (ys[i]'hyl) (by simp [hyl])
  obtain ⟨u,eu,ru⟩:=rv.get (i:=i) (x:=ys[i]'hyl) (by simp [hyl])
  obtain ⟨a,ea,hH⟩:=tk
  rw [ea] at ru
  cases ru
  exact ⟨a,by rw [List.getD_eq_getElem?_getD,eu]; rfl,by rw [List.getD_eq_getElem?_getD,ek]; exact hH⟩
 classical
 let kof:Value->List Int:=fun v=>if h:∃ i,i < its.length/\its.getD i .none=v then ks.getD (Classical.choose h) [] else []
 have kofe:∀ i,i < its.length->kof (its.getD i .none)=ks.getD i []:=fun i hi=>by
  have h:∃ j,j < its.length/\its.getD j .none=its.getD i .none:=⟨i,hi,rfl⟩
  show (if h:∃ j,j < its.length/\its.getD j .none=its.getD i .none then ks.getD (Classical.choose h) [] else [])=_
  rw [dif_pos h]
  obtain ⟨c1,c2⟩:=Classical.choose_spec h
  obtain ⟨a,e1,e2⟩:=key _ c1
  obtain ⟨a',e1',e2'⟩:=key i hi
  rw [c2,e1'] at e1
  cases e1
  rw [e2'] at e2
  have inj:∀ (p q:List Int),p.map V.int=q.map V.int->p=q:=fun p q e=>by
   induction p generalizing q with
   | nil=>cases q with
    | nil=>rfl
    | cons _ _=>cases e
   | cons x p ih=>cases q with
    | nil=>cases e
    | cons y q =>
     obtain ⟨h1,h2⟩:=List.cons.inj e
     cases h1
     rw [ih q h2]
  have e3:(ks.getD i []).map V.int=(ks.getD (Classical.choose h) []).map V.int:=by
   injection (Option.some.inj e2)
  exact (inj _ _ e3).symm
 have zip:(its.toArray.zip its.toArray).toList=(List.range its.length).map fun i=>(its.getD i .none,its.getD i .none):=by
  rw [List.zip_toArray]
  refine List.ext_getElem (by simp) fun i h1 h2=>?_
  have hi:i < its.length:=by simpa using h2
  simp [hi]
 refine ⟨tuples' (Value.type "int" != Value.type "tuple"),fun x y=>HT.lexLt (kof x.1) (kof y.1),fun x=>∃ i,i < its.length/\x=(its.getD i .none,its.getD i .none),⟨fun a=>lexLt_irr _,fun h1 h2=>lexLt_tr h1 h2,fun h=>lexLt_as h⟩,fun x hx=>?_,fun A s' keep=>⟨fun Q hQ=>?_,fun x y Q hx hy hQ=>?_⟩,fun arr hp hs=>?_⟩
 ·rw [zip] at hx
  obtain ⟨i,hi,rfl⟩:=List.mem_map.mp hx
  exact ⟨i,by simpa using hi,rfl⟩
 ·obtain ⟨fs,kt,lf,fi⟩:=katTups_of I (h:=s'.heap) keep pk rv ne
  exact kat_kind (T:=.type "int") kt (by omega) (fun v hv=>by obtain ⟨i,t,rfl⟩:=fi v hv; exact Looks.of_pure rfl) (by first | rfl | decide) hQ
 ·obtain ⟨i,hi,rfl⟩:=hx
  obtain ⟨j,hj,rfl⟩:=hy
  dsimp only at hQ ⊢
  rw [kofe i hi,kofe j hj] at hQ
  have at':∀ i,i < its.length->∃ a ws,its.getD i .none=.ref a/\IsTup s'.heap a ws.toArray/\IntsAre ws (ks.getD i []):=fun i hi=>by
   have hyl:i < ys.length:=by omega
   obtain ⟨k,ek,tk⟩:=paired_get pk i (ys[i]'hyl) (by simp [hyl])
   obtain ⟨u,eu,ru⟩:=rv.get (i:=i) (x:=ys[i]'hyl) (by simp [hyl])
   obtain ⟨a,ws,e1,hH,⟨o,g1,g2,g3⟩,g4⟩:=intItems I tk ru
   exact ⟨a,ws,by rw [List.getD_eq_getElem?_getD,eu,e1]; rfl,⟨o,keep _ _ _ hH g1,g2,g3⟩,by rw [List.getD_eq_getElem?_getD,ek]; exact g4⟩
  obtain ⟨a,ws,e1,⟨o,g1,g2,n,g3⟩,g4⟩:=at' i hi
  obtain ⟨a',ws',e1',⟨o',g1',g2',n',g3'⟩,g4'⟩:=at' j hj
  rw [e1,e1']
  have la:=g4.length
  have la':=g4'.length
  refine kat_lt g1 g3 g1' g3' ?_
  exact lex_wp ws ws' _ _ 0 g4 g4' hQ _ _ (by simp only [List.size_toArray]; omega)
 ·obtain ⟨p,hp',ea⟩:=perm_lift hp _ zip
  have hpl:∀ i ∈ p,i < its.length:=fun i hi=>by simpa using hp'.mem_iff.mp hi
  refine ⟨p.map fun i=>ys.getD i .non,fun o ho=>?_,?_,?_⟩
  ·obtain ⟨i,hi,rfl⟩:=List.mem_map.mp ho
   have hi':i < ys.length:=by rw [hys]; exact hpl i hi
   rw [List.getD_eq_getElem?_getD,List.getElem?_eq_getElem hi']
   exact List.getElem_mem hi'
  ·have esort:(p.map fun i=>ks.getD i [])=sortK ks:=by
    refine sortK_unique ?_ ?_
    ·unfold Asc
     rw [ea] at hs
     unfold SrtL at hs
     rw [List.pairwise_map] at hs ⊢
     refine List.Pairwise.imp_of_mem (fun {a b} ha hb hab=>?_) hs
     dsimp only at hab
     rwa [kofe a (hpl a ha),kofe b (hpl b hb)] at hab
    ·have e2:(List.range its.length).map (fun i=>ks.getD i [])=ks:=by rw [l1]; exact range_getD ks []
     have:=hp'.map (fun i=>ks.getD i [])
     rw [e2] at this
     exact this
   rw [<-esort]
   exact paired_map ys ks .non [] pk p fun i hi=>by rw [hys]; exact hpl i hi
  ·have:(arr.map (·.2)).toList=p.map fun i=>its.getD i Value.none:=by
    rw [Array.toList_map,ea,List.map_map]; rfl
   rw [this]
   exact paired_map ys its .non .none rv p fun i hi=>by rw [hys]; exact hpl i hi
theorem call_sorted:CallR X (.builtin "sorted") (rSorted X.K):=by
 intro pins s σ H xs us Q I r h
 obtain ⟨p,ys,ks,rfl,hp,pk,ne,h64,q⟩:=h
 obtain ⟨u,rfl,ru⟩:=vals1 r
 cases ru
 obtain ⟨its,rv,pl,hz⟩:=I.list hp
 have l1:its.length=ks.length:=by rw [<-rv.length]; exact Paired.length pk
 by_cases h2:its.length < 2
 ·refine sorted_short pl.isList h2 ?_
  obtain ⟨e,hat⟩:=sortedAll_at s.heap its its.toArray
  have hs:Paired (TupAt H) ys (sortK ks):=by
   have:sortK ks=ks:=by
    match ks,l1 ▸ h2 with
    | [],_=>rfl
    | [_],_=>rfl
   rw [this]; exact pk
  refine ⟨.ref (s.heap.objs.size + 1),_,I.laid (a:=s.heap.objs.size + 1) (o:=.lst ys) (t':=s.toks) (fun b o e=>sortedAll_old e) (Nat.le_succ _) ⟨hz,its,e,rv,hat⟩,rfl,q _ ys (I.hok.fresh (Nat.le_succ _)) (fun _ h=>h) hs⟩
 by_cases h63:its.length=64
 ·obtain ⟨κ,lt,S,c1,c2,c3,c4⟩:=core64 I pk rv ne h63
  refine sorted64 pl.isList h63 c1 c2 (fun A h1 keep=>c3 A _ fun b o u _ e=>keep b o e) fun arr a1 a2=>?_
  obtain ⟨outs,o1,o2,o3⟩:=c4 arr a1 a2
  obtain ⟨e,hat⟩:=sortedAll_at s.heap its (arr.map (·.2))
  have ls:(arr.map (·.2)).toList.length=64:=by rw [Array.length_toList,Array.size_map,<-Array.length_toList,a1.length_eq]; simp [h63]
  have lo:outs.length=64:=by rw [o3.length]; exact ls
  exact ⟨.ref (s.heap.objs.size + 1),_,I.laid (a:=s.heap.objs.size + 1) (o:=.lst outs) (t':=s.toks) (fun b o e=>sortedAll_old e) (Nat.le_succ _) ⟨by rw [lo,sizeLine_eq]; omega,_,e,o3,by rw [Array.toArray_toList]; exact hat⟩,rfl,q _ outs (I.hok.fresh (Nat.le_succ _)) o1 o2⟩
 ·obtain ⟨m,F⟩:=I.fr
  have N:News X.base X.env.locals s.heap (allNews X.base s.heap X.env.locals):=news_all
  refine kat_sorted F N pl.isList (by omega) (by omega) fun D e1 h' F' N' above=>?_
  exact sort_core I F pk rv ne (by omega) (by omega) F' N' above fun outs hD ho po=>q D outs hD ho po
end
end M

set_option Elab.async false
set_option linter.all false
set_option maxRecDepth 100000
namespace M
open PySem PySem.W PySem.Spec PyProof.Rows L2

noncomputable def RawD (h:Heap) (d:Addr) (es:Array DictEntry) (ep:Nat):Prop:=∃ o,h.get? d=some o/\o.ExactDict/\o.data=.dict es ep
section
variable {prog:Program} {w:World} {A:Around} {E:Value->Shared->Prop} {s:Shared} {d it:Addr} {es:Array DictEntry} {ep:Nat}
theorem RawD.type (x:RawD s.heap d es ep):s.TypeIs (.ref d) "dict":=by obtain ⟨o,h1,h2,_⟩:=x; exact ⟨o,h1,h2.1⟩
theorem RawD.at {h h':Heap} (x:RawD h d es ep) (e:∀ o,h.get? d=some o->h'.get? d=some o):RawD h' d es ep:=by obtain ⟨o,h1,r⟩:=x; exact ⟨o,e o h1,r⟩
theorem raw_iter {Q:Value->Shared->Prop} (hd:(d == sysModules)=false) (x:RawD s.heap d es ep)
  (q:Q (.ref s.heap.objs.size) { s with heap:=s.heap.push { cls:=.type "dict_keyiterator",data:=.fields #[.ref d,.int 0 0,.int es.size 0,.int ep 0] } }):wpAny (model prog w) A (pyIter (.ref d)) Q E s:=by
 have hT:=x.type
 obtain ⟨o,ho,hc,hdat⟩:=x
 refine wpAny_pyIter_slot hT F.slot_dict_iter (wpAny_call_entry F.slot_dict_iter hT F.entry_dict_iter ?_ (F.args_dict_iter_1 _))
 unfold Builtin.«dict.__iter__»
 refine wpAny_bind ?_
 unfold Builtin.Dict.dictSlotNone
 refine wpAny_bind (wpAny_notOrdered_dict hT (show wpAny _ _ (pure (Value.ref d)) _ _ s from wpAny_pure ?_))
 show wpAny _ _ (Builtin.Dict.showsAll d >>= _) _ _ s
 unfold Builtin.Dict.showsAll
 rw [hd,if_neg Bool.false_ne_true]
 refine wpAny_bind (wpAny_pure (wpAny_bind (wpAny_dictEntries ho hdat (wpAny_bind (wpAny_dictEpoch ho hdat ?_)))))
 refine wpAny_bind (wpAny_newObj_type (wpAny_pure ⟨_,rfl,"dict_keyiterator",_,⟨_,Heap.get?_push_size _ rfl,rfl⟩,F.slot_dict_keyiterator_next.lookup,?_⟩))
 simpa [rawInt] using q
theorem raw_next {i:Nat} {e:DictEntry} {Q:Option Value->Shared->Prop} (hit:s.heap.IsKeyIter it d i es.size ep) (x:RawD s.heap d es ep) (hx:es[i]?=some e)
  (q:∀ h',h'.IsKeyIter it d (i + 1) es.size ep->Heap.SameBut it s.heap h'->Q (some e.key) { s with heap:=h' }):wpAny (model prog w) A (pyNext (.ref it)) Q E s:=by
 obtain ⟨o,ho,hc,hd⟩:=id hit
 obtain ⟨od,hod,hcd,hdd⟩:=x
 have ht:=hit.typeIs
 unfold pyNext
 refine wpAny_bind (wpAny_attempt (wpAny_callSpecial?_slot (name:=Str.ofString "__next__") ht F.slot_dict_keyiterator_next
  (wpAny_call_entry F.slot_dict_keyiterator_next ht F.entry_dict_keyiterator_next ?_ (F.args_dict_keyiterator_next_1 _))))
 refine wpAny_bind (wpAny_pure (wpAny_bind (wpAny_bind ?_)))
 first | refine wpAny_bind (wpAny_typeNameOfWhole_keyiter ht (wpAny_pure ?_)) | refine wpAny_bind (wpAny_typeNameOf_keyiter ht (wpAny_pure ?_))
 refine wpAny_bind (wpAny_fieldsOf ho hd ?_)
 simp only [show Builtin.Dict_items.ownsTuple "dict_keyiterator"=false by decide,Bool.false_eq_true,if_false]
 show wpAny _ _ (if (Value.ref d == Value.none)=true then _ else _) _ _ s
 rw [if_neg (show ¬ ((Value.ref d == Value.none)=true) from Bool.false_ne_true)]
 refine wpAny_bind (wpAny_pure (wpAny_bind (wpAny_dictEntries hod hdd ?_)))
 rw [if_neg (by simp)]
 refine wpAny_bind (wpAny_pure (wpAny_bind (wpAny_dictEpoch hod hdd ?_)))
 rw [if_neg (by simp)]
 refine wpAny_pure ?_
 simp only [show ¬ ((i:Int) < 0) from by omega,if_false,Int.toNat_natCast,hx]
 refine wpAny_bind ?_
 first | refine wpAny_bind (wpAny_typeNameOfWhole_keyiter ht (wpAny_pure ?_)) | refine wpAny_bind (wpAny_typeNameOf_keyiter ht (wpAny_pure ?_))
 refine wpAny_bind (wpAny_isOneOf_keyiter ht ?_)
 show wpAny _ _ (setField (.ref it) 1 (rawInt ((i:Int) + 1)) >>= _) _ _ s
 refine wpAny_bind (wpAny_setField ho hd (by simp) ?_)
 have hit':(s.heap.update it (Obj.mapFields (·.setIfInBounds 1 (rawInt ((i:Int) + 1))))).IsKeyIter it d (i + 1) es.size ep :=
  ⟨_,Heap.get?_update_self _ ho (Obj.isFreed_of_fields (Obj.data_mapFields hd _)),(Obj.cls_mapFields ..).trans hc,by rw [Obj.data_mapFields hd]; simp [rawInt]⟩
 refine wpAny_bind (wpAny_holding (wpAny_bind (wpAny_isOneOf_keyiter (s:={ s with heap:=s.heap.update it (Obj.mapFields (·.setIfInBounds 1 (rawInt ((i:Int) + 1)))) }) hit'.typeIs ?_)))
 show wpAny _ _ (pure e.key) _ _ _
 exact wpAny_pure (wpAny_pure ⟨_,rfl,wpAny_pure (q _ hit' (Heap.SameBut.update ..))⟩)
theorem raw_end {i:Nat} {Q:Option Value->Shared->Prop} (hh:A.handled=none) (hit:s.heap.IsKeyIter it d i es.size ep) (x:RawD s.heap d es ep) (hx:es[i]?=none) (q:∀ h',Heap.ExtBut it s.heap h'->Q none { s with heap:=h' }):wpAny (model prog w) A (pyNext (.ref it)) Q E s:=by
 obtain ⟨o,ho,hc,hd⟩:=id hit
 obtain ⟨od,hod,hcd,hdd⟩:=x
 have ht:=hit.typeIs
 unfold pyNext
 refine wpAny_bind (wpAny_attempt (wpAny_callSpecial?_slot (name:=Str.ofString "__next__") ht F.slot_dict_keyiterator_next
  (wpAny_call_entry F.slot_dict_keyiterator_next ht F.entry_dict_keyiterator_next ?_ (F.args_dict_keyiterator_next_1 _))))
 refine wpAny_bind (wpAny_pure (wpAny_bind (wpAny_bind ?_)))
 first | refine wpAny_bind (wpAny_typeNameOfWhole_keyiter ht (wpAny_pure ?_)) | refine wpAny_bind (wpAny_typeNameOf_keyiter ht (wpAny_pure ?_))
 refine wpAny_bind (wpAny_fieldsOf ho hd ?_)
 simp only [show Builtin.Dict_items.ownsTuple "dict_keyiterator"=false by decide,Bool.false_eq_true,if_false]
 show wpAny _ _ (if (Value.ref d == Value.none)=true then _ else _) _ _ s
 rw [if_neg (show ¬ ((Value.ref d == Value.none)=true) from Bool.false_ne_true)]
 refine wpAny_bind (wpAny_pure (wpAny_bind (wpAny_dictEntries hod hdd ?_)))
 rw [if_neg (by simp)]
 refine wpAny_bind (wpAny_pure (wpAny_bind (wpAny_dictEpoch hod hdd ?_)))
 rw [if_neg (by simp)]
 refine wpAny_pure ?_
 simp only [show ¬ ((i:Int) < 0) from by omega,if_false,Int.toNat_natCast,hx]
 refine wpAny_bind ?_
 first | refine wpAny_bind (wpAny_typeNameOfWhole_keyiter ht (wpAny_pure ?_)) | refine wpAny_bind (wpAny_typeNameOf_keyiter ht (wpAny_pure ?_))
 show wpAny _ _ (setField (.ref it) 0 .none >>= _) _ _ s
 refine wpAny_bind (wpAny_setField ho hd (by simp) ?_)
 show wpAny _ _ (newExc (.type "StopIteration") [] >>= _) _ _ _
 refine wpAny_bind ?_
 simp only [newExc,newTuple]
 refine wpAny_bind (wpAny_newObj_type ?_ (by size_fits))
 refine wpAny_bind (m:=firstArgMember _ _) (wpAny_of_eq (a:=Value.none) (by first | rfl | (simp only [firstArgMember]; rfl)) (wpAny_newObj_type ?_ (by size_fits)))
 simp only [raiseNew]
 refine wpAny_bind (wpAny_handled ?_)
 rw [show A.in1.handled=none from hh]
 refine wpAny_bind (wpAny_pure (wpAny_throw ?_))
 refine wpAny_bind (wpAny_isInstance (T:="StopIteration") (b:=true) ⟨_,Heap.get?_push_size _ rfl,rfl⟩ isSubtype_stop ?_)
 exact wpAny_pure (q _ (((Heap.SameBut.update ..).extBut.push _).push _))
end
end M

set_option Elab.async false
set_option linter.all false
set_option maxRecDepth 100000
namespace M
open PySem PySem.Spec PyProof.Rows L2

section
variable {X:Cx} {G:Fc} {a b c:Expr} {ma mb mc:EV} {pos:Pos}
theorem hu0 (gd:Gd X):X.A.units < cLine:=by have:=gd.un; omega
theorem hu1 (gd:Gd X):X.A.units + 1 < cLine:=by have:=gd.un; omega
theorem hu4 (gd:Gd X):X.A.units + 4 < cLine:=by have:=gd.un; omega
theorem hx_of {G G':Fc} (e:G'.xc=G.xc) (hx:∀ c,¬ G.xc c):∀ c,¬ G'.xc c:=by rw [e]; exact hx
theorem gd_in {scope:Scope} {s3:Shared} {H3:Hp} {fp:List Addr} {C:Addr} (gd:Gd X):Gd (cxc X scope s3 H3 fp C):=⟨gd.calm,PassesOwn.never,gd.nd,gd.un⟩
theorem sf_add (ha:SE X G a ma) (hb:SE X G b mb):SF X G (.BinOp a .Add b pos) (e2 fAdd ma mb):=sf_bin op_add3 od_add ha hb
theorem sf_sub (ha:SE X G a ma) (hb:SE X G b mb):SF X G (.BinOp a .Sub b pos) (e2 fSub ma mb):=sf_bin op_sub od_sub ha hb
theorem sf_mul (ha:SE X G a ma) (hb:SE X G b mb):SF X G (.BinOp a .Mult b pos) (e2 fMul ma mb):=sf_bin op_mul od_mul ha hb
theorem sf_div (ha:SE X G a ma) (hb:SE X G b mb):SF X G (.BinOp a .FloorDiv b pos) (e2 fDiv ma mb):=sf_bin op_fdiv od_div ha hb
theorem sf_mod (ha:SE X G a ma) (hb:SE X G b mb):SF X G (.BinOp a .Mod b pos) (e2 fMod ma mb):=sf_bin op_mod od_mod ha hb
theorem sf_at (ha:SE X G a ma) (hb:SE X G b mb) (hs:PlainIx b:=by intro _ _; rfl):SF X G (.Subscript a b pos) (e2 fIx ma mb):=sf_ix hs ix_seq od_ix ha hb
theorem sf_dg (gd:Gd X) (ha:SE X G a ma) (hb:SE X G b mb) (hs:NoSl b:=by intro _ _; rfl):SF X G (.Subscript a b pos) (e2 fDget ma mb):=sf_dget (hu1 gd) ha hb hs
theorem sf_lt (gd:Gd X) (ha:SE X G a ma) (hb:SE X G b mb):SF X G (.Compare a [.Lt] [b] pos) (e2 fLt ma mb):=sf_cmp (op_lt2 (hu0 gd)) od_lt ha hb (nomark _)
theorem sf_eq (gd:Gd X) (ha:SE X G a ma) (hb:SE X G b mb):SF X G (.Compare a [.Eq] [b] pos) (e2 fEq ma mb):=sf_cmp (op_eqD (hu4 gd)) od_eq ha hb (nomark _)
theorem st_lt (gd:Gd X) (ha:SE X G a ma) (hb:SE X G b mb):ST X G (.Compare a [.Lt] [b] pos) (tstB (e2 fLt ma mb)):=st_cmp (op_lt2 (hu0 gd)) od_lt ha hb (nomark _)
theorem st_le (gd:Gd X) (ha:SE X G a ma) (hb:SE X G b mb):ST X G (.Compare a [.LtE] [b] pos) (tstB (e2 fLe ma mb)):=st_cmp op_le od_le ha hb (nomark _)
theorem st_gt (gd:Gd X) (ha:SE X G a ma) (hb:SE X G b mb):ST X G (.Compare a [.Gt] [b] pos) (tstB (e2 fGt ma mb)):=st_cmp op_gt od_gt ha hb (nomark _)
theorem st_ge (gd:Gd X) (ha:SE X G a ma) (hb:SE X G b mb):ST X G (.Compare a [.GtE] [b] pos) (tstB (e2 fGe ma mb)):=st_cmp (op_ge2 (hu0 gd)) od_ge ha hb (nomark _)
theorem st_eq (gd:Gd X) (ha:SE X G a ma) (hb:SE X G b mb):ST X G (.Compare a [.Eq] [b] pos) (tstB (e2 fEq ma mb)):=st_cmp (op_eqD (hu4 gd)) od_eq ha hb (nomark _)
theorem st_ne (gd:Gd X) (ha:SE X G a ma) (hb:SE X G b mb):ST X G (.Compare a [.NotEq] [b] pos) (tstB (e2 fNe ma mb)):=st_cmp (op_neD (hu4 gd)) od_ne ha hb (nomark _)
theorem st_in (gd:Gd X) (ha:SE X G a ma) (hb:SE X G b mb) (hm:behindInMarks .In b=false:=by with_unfolding_all rfl):ST X G (.Compare a [.In] [b] pos) (tstB (e2 fIn ma mb)):=st_cmp (op_inD (hu4 gd)) od_in ha hb hm
theorem st_notin (gd:Gd X) (ha:SE X G a ma) (hb:SE X G b mb) (hm:behindInMarks .NotIn b=false:=by with_unfolding_all rfl):ST X G (.Compare a [.NotIn] [b] pos) (tstB (e2 fNotIn ma mb)):=st_cmp (op_notInD (hu4 gd)) od_notIn ha hb hm
noncomputable def RdF (X:Cx) (G:Fc) (m:EV):TE:=fun σ H Q=>∃ E,Rel X.K G E σ H/\Fin (m E) (fun d=>∀ v H',Same H H'->Rp X.K H' (Ow G.pr E σ) d v->Q v H') G.xc
theorem RdF.test {m:EV} {σ:St} {H:Hp} {Q:Bool->Hp->Prop} (h:∃ E,Rel X.K G E σ H/\Fin (tstB m E) (fun b=>∀ H',Same H H'->Q b H') G.xc):RdF X G m σ H fun x H1=>∃ k,x=.bl k/\Q k H1:=by
 obtain ⟨E,hr,f⟩:=h
 refine ⟨E,hr,(Fin.bind f).mono fun d p v H' s z=>?_⟩
 cases d with
 | bl k=>exact ⟨k,z,p H' s⟩
 | _=>exact p.elim
theorem din_imp {m:EV} {mi mo:EV} (hm:m=e2 fDin mi mo) (σ:St) (H:Hp) (Q:VK) (h:RdF X G m σ H Q) :
  tDIn (fun σ H Q=>∃ E,Rel X.K G E σ H/\Fin (mi E) (fun d=>∀ v H',Same H H'->Rt X.K H' (Ow G.pr E σ) d v->Q v H') G.xc) (fun σ H Q=>∃ E,Rel X.K G E σ H/\Fin (mo E) (fun d=>∀ v H',Same H H'->Rt X.K H' (Ow G.pr E σ) d v->Q v H') G.xc) σ H Q:=by
 subst hm
 obtain ⟨E,hr,f⟩:=h
 refine ⟨E,hr,(Fin.bind f).mono fun dx fx v H1 s1 p1=>⟨E,hr.same s1,(Fin.bind fx).mono fun dy fy w H2 s2 p2=>?_⟩⟩
 obtain ⟨d,e,p⟩:=Fin.of fy
 cases dy with
 | dic kvs =>
  simp only [fDin,Option.map_eq_some_iff] at e
  obtain ⟨ks,e1,rfl⟩:=e
  obtain ⟨b,rfl,hb⟩:=key_of' e1 (p1.mono s2 fun _ z=>z)
  obtain ⟨a,ws,rfl,ha,rk⟩:=p2.dic
  obtain ⟨o,g1,g2⟩:=dget_is rk ha hb
  refine ⟨a,o,rfl,g1,?_⟩
  rw [g2]
  exact p _ H2 (s1.trans s2) (by unfold Rp; rfl)
 | _=>cases e
theorem dnotin_imp {m:EV} {mi mo:EV} (hm:m=e2 fDnotIn mi mo) (σ:St) (H:Hp) (Q:VK) (h:RdF X G m σ H Q) :
  tDNotIn (fun σ H Q=>∃ E,Rel X.K G E σ H/\Fin (mi E) (fun d=>∀ v H',Same H H'->Rt X.K H' (Ow G.pr E σ) d v->Q v H') G.xc) (fun σ H Q=>∃ E,Rel X.K G E σ H/\Fin (mo E) (fun d=>∀ v H',Same H H'->Rt X.K H' (Ow G.pr E σ) d v->Q v H') G.xc) σ H Q:=by
 subst hm
 obtain ⟨E,hr,f⟩:=h
 refine ⟨E,hr,(Fin.bind f).mono fun dx fx v H1 s1 p1=>⟨E,hr.same s1,(Fin.bind fx).mono fun dy fy w H2 s2 p2=>?_⟩⟩
 obtain ⟨d,e,p⟩:=Fin.of fy
 cases dy with
 | dic kvs =>
  simp only [fDnotIn,Option.map_eq_some_iff] at e
  obtain ⟨ks,e1,rfl⟩:=e
  obtain ⟨b,rfl,hb⟩:=key_of' e1 (p1.mono s2 fun _ z=>z)
  obtain ⟨a,ws,rfl,ha,rk⟩:=p2.dic
  obtain ⟨o,g1,g2⟩:=dget_is rk ha hb
  refine ⟨a,o,rfl,g1,?_⟩
  rw [g2]
  exact p _ H2 (s1.trans s2) (by unfold Rp; rfl)
 | _=>cases e
theorem st_din (gd:Gd X) (ha:SE X G a ma) (hb:SE X G b mb) (hm:behindInMarks .In b=false:=by with_unfolding_all rfl):ST X G (.Compare a [.In] [b] pos) (tstB (e2 fDin ma mb)) :=
 (pt_cmp (pc_din (hu1 gd) ha hb) hm).imp fun σ H Q h=>din_imp rfl σ H _ (RdF.test h)
theorem st_dnotin (gd:Gd X) (ha:SE X G a ma) (hb:SE X G b mb) (hm:behindInMarks .NotIn b=false:=by with_unfolding_all rfl):ST X G (.Compare a [.NotIn] [b] pos) (tstB (e2 fDnotIn ma mb)) :=
 (pt_cmp (pc_dnotin (hu1 gd) ha hb) hm).imp fun σ H Q h=>dnotin_imp rfl σ H _ (RdF.test h)
noncomputable def fNeg:D->Option D
 | .int i=>some (.int (-i))
 | _=>none
noncomputable def eCh (f g:D->D->Option D) (ma mb mc:EV):EV:=fun E=>ma E >>= fun x=>mb E >>= fun y=>ofO (f x y) >>= fun t=>match t with
 | .bl true=>mc E >>= fun z=>ofO (g y z)
 | .bl false=>.ok (.bl false)
 | _=>.no
structure ChOk (X:Cx) (op:CmpOp) (r:R2) (f:D->D->Option D):Prop where
 o:OpR X (compareOp op) r
 d:OpD X.K r f
theorem ch_lt:ChOk X .Lt (rI0 fun i j=>.bl (decide (i < j))) (fun x y=>match x,y with | .int i,.int j=>some (.bl (decide (i < j))) | _,_=>none):=⟨op_lt,od_int0 (g:=fun i j=>.bl (decide (i < j))) (fun dx dy d e=>by
 cases dx with
 | int i=>cases dy with
  | int j=>cases e; exact ⟨i,j,rfl,rfl,rfl⟩
  | _=>cases e
 | _=>cases e) fun i j H O=>by unfold Rp; rfl⟩
theorem ch_le:ChOk X .LtE (rI0 fun i j=>.bl (decide (i<=j))) fLe:=⟨op_le,od_le⟩
noncomputable def fLtI:D->D->Option D
 | .int i,.int j=>some (.bl (decide (i < j)))
 | _,_=>none
theorem ch_ltI:ChOk X .Lt (rI0 fun i j=>.bl (decide (i < j))) fLtI:=⟨op_lt,od_int0 (g:=fun i j=>.bl (decide (i < j))) (fun dx dy d e=>by
 cases dx with
 | int i=>cases dy with
  | int j=>cases e; exact ⟨i,j,rfl,rfl,rfl⟩
  | _=>cases e
 | _=>cases e) fun i j H O=>by unfold Rp; rfl⟩
theorem ch_imp {r r':R2} {f g:D->D->Option D} (hf:OpD X.K r f) (hg:OpD X.K r' g) (σ:St) (H:Hp) (Q:VK) (h:RdF X G (eCh f g ma mb mc) σ H Q) :
  tChain r r' (fun σ H Q=>∃ E,Rel X.K G E σ H/\Fin (ma E) (fun d=>∀ v H',Same H H'->Rt X.K H' (Ow G.pr E σ) d v->Q v H') G.xc)
   (fun σ H Q=>∃ E,Rel X.K G E σ H/\Fin (mb E) (fun d=>∀ v H',Same H H'->Rt X.K H' (Ow G.pr E σ) d v->Q v H') G.xc)
   (fun σ H Q=>∃ E,Rel X.K G E σ H/\Fin (mc E) (fun d=>∀ v H',Same H H'->Rt X.K H' (Ow G.pr E σ) d v->Q v H') G.xc) σ H Q:=by
 obtain ⟨E,hr,f0⟩:=h
 refine ⟨E,hr,(Fin.bind f0).mono fun dx fx v H1 s1 p1=>⟨E,hr.same s1,(Fin.bind fx).mono fun dy fy w H2 s2 p2=>?_⟩⟩
 have ft:=Fin.bind fy
 obtain ⟨d,e,p⟩:=Fin.of ft
 refine hf H2 _ dx dy d v w _ (hr.same (s1.trans s2)).sane e (rt_grow p1 s2) p2 fun u H3 s3 z=>?_
 cases d with
 | bl k =>
  cases k with
  | false=>exact ⟨false,z,p _ H3 ((s1.trans s2).trans s3) (by unfold Rp; rfl)⟩
  | true =>
   refine ⟨true,z,?_⟩
   rw [if_pos rfl]
   refine ⟨E,(hr.same ((s1.trans s2).trans s3)),(Fin.bind p).mono fun dz fz w' H4 s4 p4=>?_⟩
   obtain ⟨d',e',p'⟩:=Fin.of fz
   exact hg H4 _ dy dz d' w w' Q (hr.same (((s1.trans s2).trans s3).trans s4)).sane e' (rt_grow (rt_grow p2 s3) s4) p4 fun u' H5 s5 z'=>p' u' H5 ((((s1.trans s2).trans s3).trans s4).trans s5) z'
 | _=>exact p.elim
theorem sf_ch {op op':CmpOp} {r r':R2} {f g:D->D->Option D} (h1:ChOk X op r f) (h2:ChOk X op' r' g) (ha:SE X G a ma) (hb:SE X G b mb) (hc:SE X G c mc) (hm:lastMarks [op,op'] [b,c]=false:=by with_unfolding_all rfl) :
  SF X G (.Compare a [op,op'] [b,c] pos) (eCh f g ma mb mc):=(pe_chain h1.o h2.o ha hb hc hm).imp fun σ H Q h=>ch_imp h1.d h2.d σ H Q h
end

section
variable {X:Cx} {G:Fc} {e:Expr} {m:EV}
noncomputable def flat:D->R D
 | .non=>.ok .non
 | .bl b=>.ok (.bl b)
 | .int i=>.ok (.int i)
 | .str s=>.ok (.str s)
 | _=>.no
noncomputable def eLoose (i:Nat) (m:EV):EV:=fun E=>m (frz i E) >>= flat
end

noncomputable def Call2D (K:PySem.W.Frag) (r:List V->Hp->VK->Prop) (f:D->D->Option D):Prop :=
 ∀ (H:Hp) (O:Addr->Prop) (dx dy d:D) (v w:V) (Q:VK),Sane H O->f dx dy=some d->Rt K H O dx v->Rt K H O dy w->(∀ u H',Same H H'->Rp K H' O d u->Q u H')->r [v,w] H Q
section
variable {X:Cx} {G:Fc} {r:List V->Hp->VK->Prop} {f:D->D->Option D} {x:Str} {p pos:Pos} {a b:Expr} {ma mb:EV}
theorem sf_callB2 {id:String} (hc:CallR X (.builtin id) r) (hf:Call2D X.K r f) (hg:Gl X x) (hm:X.mg x=none) (hv:bootBuiltins x=some (.builtin id)) (ha:SE X G a ma) (hb:SE X G b mb) (hn:x ≠ "__name__":=by decide) (hdb:(x == ("__debug__":Str))=false:=by decide)
  (hs:starEach [a,b] X.env=(false,eval a X.env) :: starEach [b] X.env:=by rfl) (hs2:starEach [b] X.env=(false,eval b X.env) :: starEach [] X.env:=by rfl) (hpl:(backTo pos (starEach [b] X.env)).any (·.1)=false:=by rfl):SF X G (.Call (.Name x p) [a,b] [] pos) (e2 f ma mb) :=
 (pe_callB hc hg hm hv (pa_cons ha (pa_cons hb pa_nil hs2) hs) hn hdb hs hpl).imp fun σ H Q z0=>z0.elim fun E z0=>z0.elim fun hr h=>⟨E,hr,(Fin.bind h).mono fun dx fx v H1 s1 p1=>⟨E,hr.same s1,(Fin.bind fx).mono fun dy fy w H2 s2 p2=>by
  obtain ⟨d,e,q⟩:=Fin.of fy
  exact hf H2 _ dx dy d v w Q (hr.same (s1.trans s2)).sane e (rt_grow p1 s2) p2 fun u H' s z=>q u H' ((s1.trans s2).trans s) z⟩⟩
noncomputable def fMax:D->D->Option D
 | .int i,.int j=>some (.int (if j > i then j else i))
 | _,_=>none
noncomputable def fMin:D->D->Option D
 | .int i,.int j=>some (.int (if j < i then j else i))
 | _,_=>none
theorem sf_min (gd:Gd X) (hg:Gl X "min") (hm:X.mg "min"=none) (ha:SE X G a ma) (hb:SE X G b mb)
  (hs:starEach [a,b] X.env=(false,eval a X.env) :: starEach [b] X.env:=by rfl) (hs2:starEach [b] X.env=(false,eval b X.env) :: starEach [] X.env:=by rfl) (hpl:(backTo pos (starEach [b] X.env)).any (·.1)=false:=by rfl):SF X G (.Call (.Name "min" p) [a,b] [] pos) (e2 fMin ma mb) :=
 sf_callB2 (call_min2 gd.calm) (fun H O dx dy d v w Q fr e rx ry q=>by
  cases dx with
  | int i=>cases dy with
   | int j=>cases e; exact ⟨i,j,by rw [rx.int,ry.int],q _ H (Same.refl _) (by unfold Rp; rfl)⟩
   | _=>cases e
  | _=>cases e) hg hm (by decide +kernel) ha hb (hs:=hs) (hs2:=hs2) (hpl:=hpl)
end
section
variable {X:Cx} {G:Fc} {p pos:Pos} {e:Expr} {m:EV}
theorem sf_len (hg:Gl X "len") (hm:X.mg "len"=none) (he:SE X G e m) (hs:starEach [e] X.env=(false,eval e X.env) :: starEach [] X.env:=by rfl) (hpl:(backTo pos (starEach [] X.env)).any (·.1)=false:=by rfl):SF X G (.Call (.Name "len" p) [e] [] pos) (e1 fLen m) :=
 sf_callB call_len cd_len hg hm PySem.boot_len he (hs:=hs) (hpl:=hpl)
theorem sn_list (hg:Gl X "list") (hm:X.mg "list"=none) (he:SE X G e m) (hs:starEach [e] X.env=(false,eval e X.env) :: starEach [] X.env:=by rfl) (hpl:(backTo pos (starEach [] X.env)).any (·.1)=false:=by rfl):SN X G (.Call (.Name "list" p) [e] [] pos) (e1 fList m) :=
 sn_callT call_list cn_list hg hm (by decide +kernel) he (hs:=hs) (hpl:=hpl)
end

inductive Ty where
 | bool | int | list | tuple | str
noncomputable def Ty.nm:Ty->String
 | .bool=>"bool" | .int=>"int" | .list=>"list" | .tuple=>"tuple" | .str=>"str"
noncomputable def fIsi:Ty->D->Option D
 | .bool,.bl _=>some (.bl true)
 | .int,.bl _=>some (.bl true)
 | .int,.int _=>some (.bl true)
 | .list,.lst _=>some (.bl true)
 | .tuple,.tup _=>some (.bl true)
 | .str,.str _=>some (.bl true)
 | _,.non=>some (.bl false)
 | _,.bl _=>some (.bl false)
 | _,.int _=>some (.bl false)
 | _,.str _=>some (.bl false)
 | _,.tup _=>some (.bl false)
 | _,.lst _=>some (.bl false)
 | _,_=>none
end M

set_option Elab.async false
set_option linter.all false
set_option maxRecDepth 100000
namespace M
open PySem PySem.Spec PyProof.Rows L2
section
variable {X:Cx} {G:Fc} {p p2 pos:Pos} {e:Expr} {m:EV}
theorem rt_ty {K:PySem.W.Frag} {H:Hp} {O:Addr->Prop} {t:Ty} {d d':D} {v:V} (e:fIsi t d=some d') (r:Rt K H O d v):∃ tv b,d'=.bl b/\TyOf K H v tv/\PySem.W.kitOne K tv (.type t.nm)=some b:=by
 cases d with
 | non=>rw [r.non]; cases t<;>(cases e; exact ⟨_,_,rfl,.non,rfl⟩)
 | bl b=>rw [r.bl]; cases t<;>(cases e; exact ⟨_,_,rfl,.bl _,rfl⟩)
 | int b=>rw [r.int]; cases t<;>(cases e; exact ⟨_,_,rfl,.int _,rfl⟩)
 | str b=>rw [r.str]; cases t<;>(cases e; exact ⟨_,_,rfl,.str _,rfl⟩)
 | tup ds=>obtain ⟨a,vs,rfl,h1,_⟩:=r.tup; cases t<;>(cases e; exact ⟨_,_,rfl,.tup h1,rfl⟩)
 | lst ds=>obtain ⟨a,vs,rfl,h1,_⟩:=r.lst; cases t<;>(cases e; exact ⟨_,_,rfl,.lst h1,rfl⟩)
 | dic ds=>cases t<;>cases e
 | scr ds=>cases t<;>cases e
noncomputable def rIsi (K:PySem.W.Frag):List V->Hp->VK->Prop:=fun xs H Q=>∃ x T tv b,xs=[x,.ty T]/\TyOf K H x tv/\PySem.W.kitOne K tv (.type T)=some b/\Q (.bl b) H
theorem call_isi:CallR X (.builtin "isinstance") (rIsi X.K):=by
 intro pins s σ H xs us Q I r h
 obtain ⟨x,T,tv,b,rfl,ty,e,q⟩:=h
 obtain ⟨u,w',rfl,r1,r2⟩:=vals2 r
 cases r2
 exact isinst_ok I r1 ty e fun tk=>⟨.bl b,H,I.tok _,rfl,q⟩
theorem sf_isi (t:Ty) {x:Str} (hg:Gl X "isinstance") (hm:X.mg "isinstance"=none) (hg2:Gl X x) (hm2:X.mg x=none) (he:SE X G e m) (hv2:bootBuiltins x=some (.type t.nm):=by decide +kernel) (hn2:x ≠ "__name__":=by decide) (hdb2:(x == ("__debug__":Str))=false:=by decide)
  (hs:starEach [e,.Name x p2] X.env=(false,eval e X.env) :: starEach [.Name x p2] X.env:=by rfl) (hs2:starEach [.Name x p2] X.env=(false,eval (.Name x p2) X.env) :: starEach [] X.env:=by rfl) (hpl:(backTo pos (starEach [.Name x p2] X.env)).any (·.1)=false:=by rfl) :
  SF X G (.Call (.Name "isinstance" p) [e,.Name x p2] [] pos) (e1 (fIsi t) m) :=
 (pe_callB call_isi hg hm (by decide +kernel) (pa_cons he (pa_cons (pe_bltn (v:=.ty t.nm) hg2 hm2 hv2 rfl hn2 hdb2) pa_nil hs2) hs) (he:=hs) (hpl:=hpl)).imp fun σ H Q z0=>z0.elim fun E z0=>z0.elim fun hr h=>⟨E,hr,(Fin.bind h).mono fun dx fx v H1 s1 p1=>by
  obtain ⟨d,e,q⟩:=Fin.of fx
  obtain ⟨tv,b,rfl,ty,ek⟩:=rt_ty e p1
  exact ⟨v,t.nm,tv,b,rfl,ty,ek,q _ H1 s1 (by unfold Rp; rfl)⟩⟩
end
end M

set_option Elab.async false
set_option linter.all false
set_option maxRecDepth 100000
namespace M
open PySem PySem.Spec PyProof.Rows L2
structure Dfn (K:PySem.W.Frag) (mg:Str->Option Value) (x:Str) (st:Stmt) (f:Addr) (fd:FuncData):Prop where
 fn:Fun K x x st f fd
 mg:mg x=some (.ref f)
structure Cal (P:Program) (w:World) (K:PySem.W.Frag) (mg:Str->Option Value) (base:Heap) (x:Str) (ps:List Str) (k:Nat) (dn:List D->R D):Prop where
 ex:∃ (f:Addr) (fd:FuncData),mg x=some (.ref f)/\PySem.W.keepIn K (.ref f)=true/\Binds K fd ps []/\FnOk P w K mg base CX0 k f fd ps (spD K ps.length dn)
section
variable {P:Program} {w:World} {K:PySem.W.Frag} {mg:Str->Option Value} {base:Heap} {x qual:Str} {st:Stmt} {f:Addr} {fd:FuncData} {N ps:List Str} {k:Nat} {m:EX}
theorem fn_okG (F:Fun K x qual st f fd) (S:FnScope N ps (defScope st))
  (hb:∀ (cdv:Value) (A:Around) (outer:List Env) (s:Shared) (H:Hp) (E:XK),Room k (bx P w K mg base N qual (defScope st) f cdv A outer s H E).A->Gd (bx P w K mg base N qual (defScope st) f cdv A outer s H E)->∀ G:Fc,(∀ c,¬ G.xc c)->SB (bx P w K mg base N qual (defScope st) f cdv A outer s H E) G (defBody st) m) :
  FnOk P w K mg base CX0 (k + 1) f fd ps (spD K ps.length (den N.length m)) :=
 F.ok S (fun vs H Q E h=>h.1) fun cdv A outer s H vs Q E hr ⟨hl,pr,ds,hp,rs,f⟩=>by
  have gd:Gd (bx P w K mg base N qual (defScope st) _ cdv A outer s H E):=⟨rfl,PassesOwn.never,S.nd,by have:=hr.units; exact Nat.lt_of_le_of_lt (Nat.add_le_add_left (by decide) _) this⟩
  refine ⟨_,hb cdv A outer s H E hr gd ⟨H,pr,fun _=>False⟩ (fun _ h=>h),startE N.length ds,rel_start hp rs,?_⟩
  refine (Fin.bind f).mono fun o p=>?_
  cases o with
  | rt d=>exact fun v H' s z=>p v H' s z
  | nx E'=>exact fun σ' H' r'=>p .non H' r'.base (by unfold Rp; rfl)
  | bk E'=>exact p.elim
  | ct E'=>exact p.elim
end
section
variable {X:Cx} {G:Fc} {k j:Nat} {ps:List Str} {dn:List D->R D} {x:Str} {p pos:Pos} {e:Expr} {es:List Expr} {ma:Ev->R (List D)}
theorem sf_cal (C:Cal X.prog X.w X.K X.mg X.base x ps k dn) (hx:∀ c,¬ G.xc c) (hr:Room j X.A) (hk:k<=j) (hg:Gl X x) (ha:SA X G (e :: es) ma) (hdb:(x == ("__debug__":Str))=false:=by decide) (he:starEach (e :: es) X.env=(false,eval e X.env) :: starEach es X.env:=by rfl) (hpl:(backTo pos (starEach es X.env)).any (·.1)=false:=by rfl) :
  SF X G (.Call (.Name x p) (e :: es) [] pos) (eCall ps.length dn ma):=by
 obtain ⟨f,fd,hm,hk',hb,F⟩:=C.ex
 exact sf_call F hx (hr.mono hk) hg hm hk' hb ha hdb he hpl
end
theorem hset_n (i:Nat):∀ d E E',gN i d E=some E'->clr [i] E'=clr [i] E:=fun d E E' h=>by
 unfold gN at h
 cases h
 show (E.set i (.fz d)).set i .un=E.set i .un
 rw [List.set_set]
theorem hset_t (i j:Nat):∀ d E E',gT i j d E=some E'->clr [i,j] E'=clr [i,j] E:=fun d E E' h=>by
 unfold gT at h
 split at h
 ·cases h
  rename_i a b
  show (((((E.set i (.fz a)).set j (.fz b)).set i .un).set j .un))=((E.set i .un).set j .un)
  by_cases e:i=j
  ·subst e; simp
  ·rw [List.set_comm _ _ (Ne.symm e),List.set_set]
   rw [List.set_comm (l:=E) _ _ e]
   simp [List.set_set]
   rw [List.set_comm _ _ (Ne.symm e)]
 ·cases h
end M

set_option Elab.async false
set_option linter.all false
set_option maxRecDepth 100000
namespace M
open PySem PySem.Spec PyProof.Rows L2
section
variable {X:Cx} {pins:List (Addr × Obj)} {σ:St} {H:Hp} {s:Shared} {a b:Addr} {kvs:List (List Key × V)} {k:List Key} {v:V} {r:Value} {A:Around} {E:Value->Shared->Prop}
theorem d_dictSetT {Q:Unit->Shared->Prop} (hu:A.units < cLine) (I:Inv X pins σ H s) (e:H a=some (.dT kvs)) (eb:H b=some (.tup (k.map kV))) (l:kvs.length < sizeLine) (rv:RelV v r)
  (h:∀ h' tk,Inv X pins σ (upd H a (.dT (putK kvs k v))) { s with heap:=h',toks:=tk }->Heap.SameBut a s.heap h'->Q () { s with heap:=h',toks:=tk }):wpAny (model X.prog X.w) A (dictSet a (.ref b) r) Q E s:=by
 obtain ⟨z,hd,xs,rel,dd⟩:=dt_of I.hok e
 have hz:xs.length<=sizeLine:=by rw [<-Paired.length rel]; exact z
 have hl:(putK kvs k v).length<=sizeLine:=by have:=length_putK kvs k v; omega
 refine wpAny_dictSet_heap (hsz:=hz) (knd:=tupleKind (mixKind X.prog X.w)) hu (key_of I.hok eb) dd fun h' dd' hs=>h h' _ ?_ hs
 obtain ⟨q,es,ep,hq,h2,h3,h4,_,h5⟩:=dd'
 refine d_write I (by rw [e]; exact True.intro) hs ⟨q,hq⟩ ⟨hl,hd,_,(rel.put k eb rv).keeps fun c ys ec=>?_,q,es,ep,hq,h2,h3,h4,h5⟩
 rw [upd_ne (ne_of ec e (fun z=>nomatch z))]
 exact ec
end
section
variable {X:Cx} {pos:Pos} {k v:Expr} {tk tv:TE}
end
noncomputable def flatB:D->Bool
 | .non=>true | .bl _=>true | .int _=>true | .str _=>true
 | _=>false
noncomputable def eD1 (mk mv:EV):EV:=fun E=>mk E >>= fun k=>mv E >>= fun v=>match keyOf k with
 | some ks=>if flatB v=true then .ok (.dic [(ks,v)]) else .no
 | none=>.no
section
variable {X:Cx} {G:Fc} {pos:Pos} {k v:Expr} {mk mv:EV}
end
end M

set_option Elab.async false
set_option linter.all false
set_option maxRecDepth 100000
namespace PySem
open Sem (wp)
theorem my_list_keys:typeLookup (.type "list") "keys"=pure none:=by rw [typeLookup_type,builtinLookup_eq_fast]; kernel_rfl
theorem getAttrQ_miss_list {prog:Program} {w:World} {A:Around} {E:Value->Shared->Prop} {s:Shared} {a:Addr} {o:Obj} {xs:Array Value} {k:Nat} {name:Str} {Q:Option Value->Shared->Prop}
  (hx:s.heap.get? a=some o) (hc:o.cls=.type "list") (hdat:o.data=.seq xs k) (hd:o.dict=none) (hmiss:typeLookup (.type "list") name=pure none) (hname:(["__module__","__name__","__qualname__","__doc__","__annotations__"]:List Str).contains name=false) (hA:A.handled=none)
  (h:∀ h' tk e,Heap.NewExcOf s.heap h' e "AttributeError"->Q none { s with heap:=h',toks:=tk }) (hsz:name.length + 100<=sizeLine:=by size_fits) :
  wpAny (model prog w) A (getAttr? (.ref a) name) Q E s:=by
 obtain ⟨c,dct,dat,sl⟩:=o
 simp only at hc hdat hd
 subst hc hdat hd
 obtain ⟨hp,g,d,tk,os⟩:=s
 have hT:∀ tk',(⟨hp,g,d,tk',os⟩:Shared).TypeIs (.ref a) "list":=fun _=>⟨_,hx,rfl⟩
 have f1:=sub_AttributeError
 have f3:=F.slot_list_getattribute.lookup
 have f4:=F.slot_list_getattribute.bind (.ref a)
 have f5:=am_list_getattr_none
 unfold getAttr? getAttrBy? getAttrBy
 repeat (any_goals (first | assumption | exact hT _ | ((with_reducible show wpAny _ _ (call (Value.builtin "list.__getattribute__") _ _) _ _ _); refine call_meets F.slot_list_getattribute (hT _) am_entry_list_getattribute (F.args_list_getattribute_2 _ _) (meets_getattribute_miss_list a xs k sl name _ hmiss hname hsz) ⟨hx,hA,fun h' tk' e hx'=>?_⟩) | wp_step))
 obtain ⟨t',u',he⟩:=hx'.there
 show wpAny _ _ (getattributeRaised _ _ _ _ _ _ _) _ _ _
 unfold getattributeRaised
 repeat (any_goals (first | assumption | wp_step))
 exact h _ _ _ hx'.of
end PySem

set_option Elab.async false
set_option linter.all false
set_option maxRecDepth 100000
namespace PySem.F
theorem my_entry_upd_loop:entryFor table "dict.update.loop"=some Builtin.«dict.update.loop»:=entryFor_of_tree (by kernel_rfl)
theorem my_plain_upd_loop:plainId "dict.update.loop"=true:=by decide +kernel
end PySem.F
namespace M
open PySem PySem.Spec PyProof.Rows L2
noncomputable def PairAt (H:Hp) (y:V) (kv:List Key × V):Prop:=∃ a b,y=.ref a/\H a=some (.tup [.ref b,kv.2])/\H b=some (.tup (kv.1.map kV))
noncomputable def mergeT (kvs more:List (List Key × V)):List (List Key × V):=more.foldl (fun acc kv=>putK acc kv.1 kv.2) kvs
section
variable {X:Cx} {pins:List (Addr × Obj)} {σ:St}
theorem PairAt.grow {H H':Hp} {y:V} {kv:List Key × V} (h:PairAt H y kv) (t:∀ b ys,H b=some (.tup ys)->H' b=some (.tup ys)):PairAt H' y kv:=by
 obtain ⟨a,b,e,h1,h2⟩:=h
 exact ⟨a,b,e,t _ _ h1,t _ _ h2⟩
theorem upd_loop {A:Around} {R:Result->Shared->Prop} {p d it:Addr} {ys:List V} {kys:List (List Key × V)} {res:Value} (hh:A.handled=none) (hu:A.in1.units < cLine):∀ (n i:Nat) (kvs:List (List Key × V)) (H:Hp) (s:Shared) (tk:Tok),n=ys.length - i->i<=ys.length->Inv X pins σ H s->H d=some (.dT kvs)->s.heap.IsListIter it p i->FpOk X pins H it->SqL X.K H p ys->Paired (PairAt H) ys kys->kvs.length + n < sizeLine->d ≠ p →
  (∀ s',Inv X pins σ (upd H d (.dT (mergeT kvs (kys.drop i)))) s'->R (.ok (.ret res)) s')->codeAny (model X.prog X.w) A (.builtin "dict.update.loop" ⟨[.ref d,.ref it,.int i tk,res],[]⟩) R s:=by
 intro n
 induction n with
 | zero =>
  intro i kvs H s tk hn hi I hd hit hf hp pr hz ne hR
  have hi':i=ys.length:=by omega
  subst hi'
  refine codeAny_builtin F.my_entry_upd_loop ?_
  rw [Around.under_plainId F.my_plain_upd_loop _]
  obtain ⟨its,rv,pl,hzz⟩:=I.list hp
  obtain ⟨f0,f1,f2,f3,f4,f5⟩:=hf
  show wpAny _ A.in1 (pyNext (.ref it) >>= _) _ _ s
  refine wpAny_bind (wpAny_pyNext_list_end hh hit pl.isList (by simp; rw [<-rv.length]; exact Nat.le_refl _) fun h' eb=>?_)
  have I':Inv X pins σ H { s with heap:=h' }:=I.turned (t':=s.toks) (fun b o hb e=>eb b o hb e) f0 f1 f3 f4 f5
  have e0:kys.drop ys.length=[]:=by rw [Paired.length pr]; simp
  rw [e0] at hR
  have e1:upd H d (.dT (mergeT kvs []))=H:=by
   funext b
   unfold upd
   split
   ·rename_i hb; rw [hb,hd]; rfl
   ·rfl
  rw [e1] at hR
  exact wpAny_bind (wpAny_pure (wpAny_pure (hR _ I')))
 | succ n ih =>
  intro i kvs H s tk hn hi I hd hit hf hp pr hz ne hR
  have hlt:i < ys.length:=by omega
  refine codeAny_builtin F.my_entry_upd_loop ?_
  rw [Around.under_plainId F.my_plain_upd_loop _]
  obtain ⟨its,rv,pl,hzz⟩:=I.list hp
  obtain ⟨f0,f1,f2,f3,f4,f5⟩:=id hf
  obtain ⟨kv,ekv,a,b,ea,ha,hb⟩:=paired_get pr i ys[i] (by simp [hlt])
  obtain ⟨u,eu,ru⟩:=rv.get (i:=i) (x:=ys[i]) (by simp [hlt])
  rw [ea] at ru
  cases ru
  show wpAny _ A.in1 (pyNext (.ref it) >>= _) _ _ s
  refine wpAny_bind (wpAny_pyNext_list_item hit pl.isList (x:=.ref a) (by simpa using eu) fun h' st' sb=>?_)
  have I1:Inv X pins σ H { s with heap:=h' }:=I.turned (t':=s.toks) (fun b o hb e=>(sb.2 b hb).trans e) f0 f1 f3 f4 f5
  obtain ⟨z2,its2,rv2,o2,g1,g2,n2,g3⟩:=(show ObjOk X.prog X.w H h' a (.tup [.ref b,kv.2]) from I1.hok a _ ha)
  obtain ⟨ub,uv,rfl,r1,r2⟩:=vals2 rv2
  cases r1
  have hT:({ s with heap:=h' }:Shared).TypeIs (.ref a) "tuple":=⟨o2,g1,g2⟩
  refine wpAny_bind (wpAny_holding (wpAny_bind (wpAny_tryCatch ?_)))
  unfold Builtin.Dict.pairItems
  refine wpAny_bind (wpAny_typeOf hT ?_)
  rw [if_pos (by decide)]
  refine wpAny_bind ?_
  unfold seqItems?
  refine wpAny_bind (wpAny_load g1 ?_)
  rw [g3]
  refine wpAny_pure (wpAny_pure ?_)
  show wpAny _ _ (holding [Value.ref b,uv] (dictSet d (.ref b) uv)) _ _ _
  refine wpAny_holding (d_dictSetT hu I1 hd hb (by omega) r2 fun h2 tk2 I2 sb2=>?_)
  have nit:it ≠ d:=fun z=>by rw [z,hd] at f0; cases f0
  have keepT:∀ c ws,H c=some (.tup ws)->(upd H d (.dT (putK kvs kv.1 kv.2))) c=some (.tup ws):=fun c ws ec=>by
   rw [upd_ne (ne_of ec hd (fun z=>nomatch z))]; exact ec
  refine wpAny_pure ⟨plainId_quiet F.my_plain_upd_loop _,ih (i + 1) (putK kvs kv.1 kv.2) (upd H d (.dT (putK kvs kv.1 kv.2))) _ _ (by omega) hlt I2 upd_same (st'.at fun o e=>(sb2.2 it nit).trans e) ?_ ?_ (Paired.imp' (fun y z h=>h.grow keepT) pr) ?_ ne fun s' I'=>?_⟩
  ·exact ⟨by rw [upd_ne nit]; exact f0,f1,f2,f3,f4,f5⟩
  ·rcases hp with (hp | ⟨o,hp⟩) | hp
   ·exact .inl (.inl (by rw [upd_ne (Ne.symm ne)]; exact hp))
   ·exact .inl (.inr ⟨o,by rw [upd_ne (Ne.symm ne)]; exact hp⟩)
   ·exact .inr hp
  ·have:=length_putK kvs kv.1 kv.2; omega
  ·refine hR s' ?_
   have hk:kys.drop i=kv :: kys.drop (i + 1):=by
    obtain ⟨hi2,e2⟩:=List.getElem?_eq_some_iff.mp ekv
    rw [List.drop_eq_getElem_cons hi2,e2]
   rw [hk]
   rw [upd_upd] at I'
   exact I'
noncomputable def rDictP (K:PySem.W.Frag):List V->Hp->VK->Prop:=fun xs H Q=>∃ (p:Addr) (ys:List V) (kys:List (List Key × V)),xs=[.ref p]/\H p=some (.lst ys)/\Paired (PairAt H) ys kys/\kys.length < sizeLine ∧
 ∀ l,H l=none->Q (.ref l) (upd H l (.dT (mergeT [] kys)))
theorem call_dictP (gd:Gd X):CallR X (.type "dict") (rDictP X.K):=by
 intro pins s σ H xs us Q I r h
 obtain ⟨p,ys,kys,rfl,hp,pk,hl,q⟩:=h
 obtain ⟨u,rfl,ru⟩:=vals1 r
 cases ru
 have hn:=I.hok.fresh (Nat.le_refl s.heap.objs.size)
 have I1:=I.laid (a:=s.heap.objs.size) (o:=.dT []) (h':=s.heap.push { cls:=.type "dict",data:=.dict #[] }) (t':=s.toks) (fun _ _ q=>Heap.get?_push_of_some _ q) (Nat.le_refl _) (dt_empty s.heap I.big)
 have hp1:(upd H s.heap.objs.size (.dT [])) p=some (.lst ys):=by rw [upd_ne (ne_of_none hp hn)]; exact hp
 have dp:s.heap.objs.size ≠ p:=fun z=>by rw [<-z,hn] at hp; cases hp
 refine callType_codes (Q₁:=fun obj s₁=>obj=.ref s.heap.objs.size/\s₁={ s with heap:=s.heap.push { cls:=.type "dict",data:=.dict #[] } }) F.kt_called_dict (F.kt_typeCall_dict_1 _) F.entry_dict_init (kt_code_dict_new _ ⟨rfl,rfl⟩) ?_
 rintro obj s₁ ⟨rfl,rfl⟩
 have hdT:({ s with heap:=s.heap.push { cls:=.type "dict",data:=.dict #[] } }:Shared).TypeIs (.ref s.heap.objs.size) "dict":=⟨_,Heap.get?_push_size _ rfl,rfl⟩
 obtain ⟨zl,its,nn,rv,gl⟩:=(show ObjOk X.prog X.w _ (s.heap.push { cls:=.type "dict",data:=.dict #[] }) p (.lst ys) from I1.hok p _ hp1)
 have hlT:({ s with heap:=s.heap.push { cls:=.type "dict",data:=.dict #[] } }:Shared).TypeIs (.ref p) "list":=⟨_,gl,rfl⟩
 refine ⟨hdT,F.args_dict_init_2 _ _,?_⟩
 unfold Builtin.«dict.__init__»
 refine wpAny_bind ?_
 unfold Builtin.Dict.selfAndRest
 refine wpAny_bind (wpAny_notOrdered_dict hdT ?_)
 show wpAny _ _ (pure (s.heap.objs.size,[Value.ref p])) _ _ _
 refine wpAny_pure ?_
 show wpAny _ _ (Builtin.Dict.updateFrom "dict.__init__" s.heap.objs.size (.ref p) [] .none) _ _ _
 unfold Builtin.Dict.updateFrom
 refine wpAny_bind (wpAny_typeOf hlT ?_)
 rw [if_pos (by decide)]
 have hh:X.A.handled=none:=I.ok.hd gd.calm
 refine wpAny_bind (getAttrQ_miss_list gl rfl rfl rfl my_list_keys (by decide +kernel) hh fun h' tk e ne=>?_)
 have I2:Inv X pins σ (upd H s.heap.objs.size (.dT [])) { s with heap:=h',toks:=tk }:=I1.kept fun b o hb=>ne.keeps b o hb
 show wpAny _ _ (rule _ >>= _) _ _ _
 refine wpAny_bind (wpAny_rule ?_)
 obtain ⟨its2,rv2,pl2,hz2⟩:=I2.list (SqL.of hp1)
 refine wpAny_bind (wpAny_pyIter_list pl2.isList ?_)
 have I3:Inv X pins σ (upd H s.heap.objs.size (.dT [])) { s with heap:=h'.push { cls:=.type "list_iterator",data:=.fields #[.ref p,rawInt 0] },toks:=tk }:=I2.kept fun b o hb=>Heap.get?_push_of_some _ hb
 have keepT:∀ c ws,H c=some (.tup ws)->(upd H s.heap.objs.size (.dT [])) c=some (.tup ws):=fun c ws ec=>by
  rw [upd_ne (ne_of_none ec hn)]; exact ec
 have fr:(upd H s.heap.objs.size (.dT [])) h'.objs.size=none:=I2.hok.fresh (Nat.le_refl _)
 refine wpAny_pure ⟨plainId_quiet F.my_plain_upd_loop _,upd_loop (A:=X.A.in1) (ys:=ys) (kys:=kys) (p:=p) hh (by have:=gd.un; have e:X.A.in1.in1.units=X.A.units + 1 + 1:=rfl; omega) ys.length 0 [] _ _ _ (by simp) (Nat.zero_le _) I3 upd_same ⟨_,Heap.get?_push_size _ rfl,rfl,rfl⟩ (I2.fpOk (Nat.le_refl _) fr) (SqL.of hp1) (Paired.imp' (fun y z h=>h.grow keepT) pk) (by rw [Paired.length pk]; simpa using hl) dp fun s' I'=>⟨rfl,⟨.ref s.heap.objs.size,_,?_,rfl,q _ hn⟩⟩⟩
 rw [upd_upd] at I'
 exact I'
end
end M

set_option Elab.async false
set_option linter.all false
set_option maxRecDepth 100000
namespace M
open PySem PySem.Spec PyProof.Rows L2
noncomputable def dPair:D->Option (List Int × D)
 | .tup [k,v]=>(keyOf k).map fun ks=>(ks,v)
 | _=>none
noncomputable def dPairs:List D->Option (List (List Int × D))
 | []=>some []
 | d :: r=>(dPair d).bind fun p=>(dPairs r).map fun ps=>p :: ps
noncomputable def dputs (kvs:List (List Int × D)) (more:List (List Int × D)):List (List Int × D):=more.foldl (fun acc kv=>dput acc kv.1 kv.2) kvs
noncomputable def fDict:D->Option D
 | .lst ds=>if ds.length<=1000000 then (dPairs ds).map fun ps=>.dic (dputs [] ps) else none
 | _=>none
section
variable {K:PySem.W.Frag} {H:Hp} {O:Addr->Prop}
theorem pair_at {d:D} {v:V} {p:List Int × D} (e:dPair d=some p) (r:Rp K H O d v):∃ y,PairAt H v (p.1.map Sum.inl,y)/\Rp K H O p.2 y:=by
 unfold dPair at e
 split at e
 ·rename_i k w
  rw [Option.map_eq_some_iff] at e
  obtain ⟨ks,ek,rfl⟩:=e
  unfold Rp at r
  obtain ⟨a,vs,rfl,_,ha,rs⟩:=r
  unfold Rps at rs
  obtain ⟨x,r1,rfl,px,rs⟩:=rs
  unfold Rps at rs
  obtain ⟨y,r2,rfl,py,rs⟩:=rs
  unfold Rps at rs
  subst rs
  obtain ⟨b,rfl,hb⟩:=key_of' ek (.inl px)
  exact ⟨y,⟨a,b,rfl,ha,hb⟩,py⟩
 ·cases e
theorem pairs_at:∀ {ds:List D} {vs:List V} {ps:List (List Int × D)},dPairs ds=some ps->Rps K H O ds vs->∃ kys,Paired (PairAt H) vs kys/\Rpk K H O ps kys
 | [],vs,ps,e,r=>by
  unfold Rps at r; subst r
  cases e
  exact ⟨[],.nil,by unfold Rpk; rfl⟩
 | d :: ds,vs,ps,e,r=>by
  unfold Rps at r
  obtain ⟨v,vr,rfl,p,rs⟩:=r
  unfold dPairs at e
  rw [Option.bind_eq_some_iff] at e
  obtain ⟨q,e1,e2⟩:=e
  rw [Option.map_eq_some_iff] at e2
  obtain ⟨qs,e3,rfl⟩:=e2
  obtain ⟨y,h1,h2⟩:=pair_at e1 p
  obtain ⟨kys,h3,h4⟩:=pairs_at e3 rs
  refine ⟨(q.1.map Sum.inl,y) :: kys,.cons h1 h3,?_⟩
  unfold Rpk
  exact ⟨y,kys,rfl,by unfold Rpq; exact h2,h4⟩
theorem rpk_puts:∀ {ps kvs:List (List Int × D)} {kys ws:List (List Key × V)},Rpk K H O ps kys->Rpk K H O kvs ws->Rpk K H O (dputs kvs ps) (mergeT ws kys)
 | [],kvs,kys,ws,h,r=>by
  unfold Rpk at h; subst h; exact r
 | p :: ps,kvs,kys,ws,h,r=>by
  unfold Rpk at h
  obtain ⟨v,r',rfl,h1,h2⟩:=h
  obtain ⟨k,d⟩:=p
  unfold Rpq at h1
  exact rpk_puts (kvs:=dput kvs k d) (ws:=putK ws (k.map Sum.inl) v) h2 (r.put h1)
theorem cn_dict:CallN K (rDictP K) fDict:=fun H O dx d v Q fr e rx q=>by
 cases dx with
 | lst ds =>
  simp only [fDict] at e
  split at e
  ·rename_i hl
   rw [Option.map_eq_some_iff] at e
   obtain ⟨ps,e1,rfl⟩:=e
   obtain ⟨a,vs,rfl,h1,r1⟩:=rx.lst
   obtain ⟨kys,p1,p2⟩:=pairs_at e1 r1
   have lk:kys.length=ds.length:=by rw [<-Paired.length p1,r1.length]
   refine ⟨a,vs,kys,rfl,h1,p1,by rw [lk,sizeLine_eq]; omega,fun l hl=>q l _ (same_upd hl) hl ⟨_,upd_same,?_⟩⟩
   exact ((rpk_puts p2 (show Rpk K H O [] [] by unfold Rpk; rfl)).fresh hl).mono (same_upd hl) fun _ z=>z
  ·cases e
 | _=>cases e
end
section
variable {X:Cx} {G:Fc} {p pos:Pos} {e:Expr} {m:EV}
theorem sn_dict (gd:Gd X) (hg:Gl X "dict") (hm:X.mg "dict"=none) (he:SE X G e m) (hs:starEach [e] X.env=(false,eval e X.env) :: starEach [] X.env:=by rfl) (hpl:(backTo pos (starEach [] X.env)).any (·.1)=false:=by rfl):SN X G (.Call (.Name "dict" p) [e] [] pos) (e1 fDict m) :=
 sn_callT (call_dictP gd) cn_dict hg hm (by decide +kernel) he (hs:=hs) (hpl:=hpl)
end
end M

set_option Elab.async false
set_option linter.all false
set_option maxRecDepth 100000
namespace M
open PySem PySem.Spec PyProof.Rows L2
theorem loc_of {N:List Str} {sc:Scope} {ts:List Nat} (h:((List.range N.length).all fun i=>ts.contains i || !(sc.names.lookup (N.getD i Str.empty) == some NameKind.local))=true):∀ (i:Nat) x,N[i]?=some x->sc.names.lookup x=some .local->i ∈ ts:=fun i x hi hl=>by
 have hlt:i < N.length:=(List.getElem?_eq_some_iff.mp hi).1
 have:=List.all_eq_true.mp h i (by simpa using hlt)
 rw [List.getD_eq_getElem?_getD,hi] at this
 simp only [Option.getD_some,hl] at this
 have e:(some NameKind.local == some NameKind.local)=true:=rfl
 rw [e] at this
 simpa using this
noncomputable def FreeOk (X:Cx):List (Str × NameKind)->Prop
 | []=>True
 | y :: r=>(y.2=.free->X.env.kindOf y.1=some .cell\/X.env.kindOf y.1=some .free)/\FreeOk X r
theorem FreeOk.all {X:Cx}:∀ {l:List (Str × NameKind)},FreeOk X l->∀ y ∈ l,y.2=.free->X.env.kindOf y.1=some .cell\/X.env.kindOf y.1=some .free
 | [],_,y,hy,_=>by simp at hy
 | z :: r,h,y,hy,hf=>by
  rcases List.mem_cons.mp hy with e | e
  ·subst e; exact h.1 hf
  ·exact FreeOk.all h.2 y e hf
theorem cs_of {X:Cx} {sc:Scope} (h1:sc.kind=.function) (h2:(sc.names.all fun y=>!(y.2 == NameKind.cell))=true) (h3:(sc.names.all fun y=>sc.names.lookup y.1 == some y.2)=true) (h4:FreeOk X sc.names):CScope X sc where
 kind:=h1
 nocell:=fun y hy e=>by
  have:=List.all_eq_true.mp h2 y hy
  rw [e] at this
  exact absurd this (by decide)
 names:=fun y hy=>by
  have:=List.all_eq_true.mp h3 y hy
  cases q:sc.names.lookup y.1 with
  | none=>rw [q] at this; cases z:y.2<;>(rw [z] at this; exact absurd this (by decide))
  | some k =>
   rw [q] at this
   cases z:y.2<;>cases k<;>first | rfl | (rw [z] at this; exact absurd this (by decide))
 free:=h4.all
theorem sf_gint {X:Cx} {G:Fc} {x:Str} {i:Int} {pos:Pos} (h:∃ t,X.mg x=some (.int i t)) (hg:Gl X x) (hd:(x == ("__debug__":Str))=false:=by decide):SF X G (.Name x pos) (kE (.int i)):=by
 obtain ⟨t,h⟩:=h
 exact sf_glob hg h ⟨t,rfl⟩ hd
end M

set_option Elab.async false
set_option linter.all false
set_option maxRecDepth 100000
namespace M
open PySem PySem.Spec PyProof.Rows L2
structure Ent (K:PySem.W.Frag) (x:Str) (st:Stmt) (f:Addr):Prop where
 a:PySem.W.nsIn K mainGlobals x=some (some (.ref f))
 l:∃ fd,Fun K x x st f fd
theorem ent_mk {K:PySem.W.Frag} {x:Str} {st:Stmt} {f:Addr} {oc:Value} {od an:Option Addr} {sl:Array (Option Value)} {kV dc pm cd ct:Value} (a:PySem.W.nsIn K mainGlobals x=some (some (.ref f)))
  (l:K.lookup f=some ⟨oc,od,.func (PySem.W.fnOf x x (defArgs st) (defBody st) (defScope st) .none kV dc pm an cd ct),sl⟩) (c:PySem.W.codeIn K cd x=true) (k:PySem.W.keepIn K (.ref f)=true):Ent K x st f:=⟨a,_,fun_mk l c k⟩
theorem ent_ex {K:PySem.W.Frag} {h:Heap} {x:Str} {st:Stmt} {f:Addr} {oc:Value} {od an:Option Addr} {sl:Array (Option Value)} {kV dc pm cd ct:Value} (_:K.In h) (a:PySem.W.nsIn K mainGlobals x=some (some (.ref f)))
  (l:K.lookup f=some ⟨oc,od,.func (PySem.W.fnOf x x (defArgs st) (defBody st) (defScope st) .none kV dc pm an cd ct),sl⟩) (c:PySem.W.codeIn K cd x=true) (k:PySem.W.keepIn K (.ref f)=true):∃ f,Ent K x st f:=⟨f,ent_mk a l c k⟩
theorem int_ex {K:PySem.W.Frag} {h:Heap} {x:Str} {i:Int} {t:Tok} (_:K.In h) (a:PySem.W.nsIn K mainGlobals x=some (some (.int i t))):∃ t,PySem.W.nsIn K mainGlobals x=some (some (.int i t)):=⟨t,a⟩
theorem Ent.dfn {K:PySem.W.Frag} {h:Heap} {mg:Str->Option Value} {x:Str} {st:Stmt} {f:Addr} (e:Ent K x st f) (X:K.In h) (G:h.Ns mainGlobals mg):∃ fd,Dfn K mg x st f fd:=by
 obtain ⟨fd,F⟩:=e.l
 exact ⟨fd,F,PySem.W.mg_of X G e.a⟩
theorem sp_law {dn:List D->R D} {K:PySem.W.Frag} {H:Hp} {a:Addr} {ns:List Int} (hl:ns.length<=63) (hS:SqL K H a (ns.map V.int)) (h:∀ ns:List Int,ns.length<=63->dn [.scr ns]=.ok (.bl true)):spD K 1 dn [.ref a] H (fun v _=>v=.bl true) fun _ _ _=>False:=by
 refine ⟨rfl,fun _=>False,[.scr ns],fun _ h=>h.elim,Rps.cons ?_ Rps.nil,?_⟩
 ·unfold Rp
  refine ⟨a,rfl,?_⟩
  rcases hS with h | h
  ·exact .inl ⟨id,h⟩
  ·exact .inr (.inr h)
 ·rw [h ns hl]
  exact fun v H' _ r=>by unfold Rp at r; exact r
theorem law_end {P:Program} {w:World} {K:PySem.W.Frag} {mg:Str->Option Value} {fa:Addr} {k:Nat} {dn:List D->R D} {st:Stmt} {f:Addr} {fd:FuncData} (hfa:mg "law"=some (.ref fa)) (Dn:Dfn K mg "law" st f fd)
  (hb:∀ (s:Shared) (v:Value),BindsTo s fd ⟨[v],[]⟩ [("script",v)])
  (h:∀ base:Heap,FnOk P w K mg base CX0 k f fd ["script"] (spD K 1 dn)) :
  ∃ fd:FuncData,(∀ (s:Shared) (v:Value),BindsTo s fd ⟨[v],[]⟩ [("script",v)])/\∀ base:Heap,K.In base->base.Ns mainGlobals mg->FnOk P w K mg base CX0 k fa fd ["script"] (spD K 1 dn):=by
 have e:=hfa.symm.trans Dn.mg
 cases e
 exact ⟨fd,hb,fun base _ _=>h base⟩
theorem Fun.one {K:PySem.W.Frag} {x qual:Str} {st:Stmt} {f:Addr} {fd:FuncData} {p:Str} (F:Fun K x qual st f fd)
  (h:∀ (kV doc pm:Value) (an:Option Addr) (cdv ct u:Value),bindArgs (PySem.W.fnOf x qual (defArgs st) (defBody st) (defScope st) .none kV doc pm an cdv ct) ⟨[u],[]⟩=pure [(p,u)]) (s:Shared) (v:Value):BindsTo s fd ⟨[v],[]⟩ [(p,v)]:=by
 obtain ⟨oc,od,kV,doc,pm,an,cdv,ct,osl,rfl,lk,hcd⟩:=F.ex
 exact .of_eq (h kV doc pm an cdv ct v)
end M

set_option Elab.async false
set_option linter.all false
set_option maxRecDepth 100000
namespace M
open PySem PySem.W PySem.Spec PyProof.Rows L2
noncomputable def dTup:D->Option (List Int)
 | .tup ds=>(dInts ds).bind fun ns=>if ns.isEmpty then none else some ns
 | _=>none
noncomputable def dTups:List D->Option (List (List Int))
 | []=>some []
 | d :: r=>(dTup d).bind fun p=>(dTups r).map fun ps=>p :: ps
noncomputable def kT (k:List Int):D:=.tup (k.map D.int)
noncomputable def fSort:D->Option D
 | .lst ds=>(dTups ds).bind fun ks=>if ks.length < 65 then some (.lst ((sortK ks).map kT)) else none
 | _=>none
section
variable {K:PySem.W.Frag} {H:Hp} {O:Addr->Prop}
theorem tup_at {d:D} {v:V} {k:List Int} (e:dTup d=some k) (r:Rp K H O d v):TupAt H v k/\k ≠ []/\∀ a,v=.ref a->¬ O a:=by
 cases d with
 | tup ds =>
  simp only [dTup,Option.bind_eq_some_iff] at e
  obtain ⟨ns,e1,e2⟩:=e
  have hd:=ints_some e1
  subst hd
  unfold Rp at r
  obtain ⟨a,vs,rfl,no,ha,rs⟩:=r
  have hv:=rs.ints
  subst hv
  split at e2
  ·cases e2
  ·rename_i he
   cases e2
   exact ⟨⟨a,rfl,ha⟩,by intro z; subst z; simp at he,fun b hb=>by cases hb; exact no⟩
 | _=>cases e
theorem tups_at:∀ {ds:List D} {vs:List V} {ks:List (List Int)},dTups ds=some ks->Rps K H O ds vs->Paired (TupAt H) vs ks/\(∀ k ∈ ks,k ≠ [])/\∀ v ∈ vs,∀ a,v=.ref a->¬ O a
 | [],vs,ks,e,r=>by
  unfold Rps at r; subst r
  cases e
  exact ⟨.nil,by simp,by simp⟩
 | d :: ds,vs,ks,e,r=>by
  unfold Rps at r
  obtain ⟨v,vr,rfl,p,rs⟩:=r
  unfold dTups at e
  rw [Option.bind_eq_some_iff] at e
  obtain ⟨q,e1,e2⟩:=e
  rw [Option.map_eq_some_iff] at e2
  obtain ⟨qs,e3,rfl⟩:=e2
  obtain ⟨h1,h2,h3⟩:=tup_at e1 p
  obtain ⟨h4,h5,h6⟩:=tups_at e3 rs
  refine ⟨.cons h1 h4,fun k hk=>?_,fun u hu=>?_⟩
  ·rcases List.mem_cons.mp hk with e | e
   ·rw [e]; exact h2
   ·exact h5 k e
  ·rcases List.mem_cons.mp hu with e | e
   ·rw [e]; exact h3
   ·exact h6 u e
theorem tups_back:∀ {vs:List V} {ks:List (List Int)},Paired (TupAt H) vs ks->(∀ v ∈ vs,∀ a,v=.ref a->¬ O a)->Rps K H O (ks.map kT) vs
 | _,_,.nil,_=>Rps.nil
 | _,_,.cons (a:=v) (b:=k) h t,hn=>by
  rw [List.map_cons]
  refine Rps.cons ?_ (tups_back t fun u hu=>hn u (List.mem_cons_of_mem _ hu))
  obtain ⟨a,rfl,ha⟩:=h
  unfold kT Rp
  exact ⟨a,_,rfl,hn _ (by simp) a rfl,ha,rps_of_ints _⟩
theorem cn_sort:CallN K (rSorted K) fSort:=fun H O dx d v Q fr e rx q=>by
 cases dx with
 | lst ds =>
  simp only [fSort,Option.bind_eq_some_iff] at e
  obtain ⟨ks,e1,e2⟩:=e
  split at e2
  ·rename_i hl
   cases e2
   obtain ⟨a,vs,rfl,h1,r1⟩:=rx.lst
   obtain ⟨p1,p2,p3⟩:=tups_at e1 r1
   refine ⟨a,vs,ks,rfl,SqL.of h1,p1,p2,hl,fun l outs hl ho po=>q l _ (same_upd hl) hl ⟨_,upd_same,?_⟩⟩
   exact ((tups_back (K:=K) po fun u hu=>p3 u (ho u hu)).fresh hl).mono (same_upd hl) fun _ z=>z
  ·cases e2
 | _=>cases e
end
section
variable {X:Cx} {G:Fc} {p pos:Pos} {e:Expr} {m:EV}
theorem sn_sort (gd:Gd X) (hg:Gl X "sorted") (hm:X.mg "sorted"=none) (he:SE X G e m) (hs:starEach [e] X.env=(false,eval e X.env) :: starEach [] X.env:=by rfl) (hpl:(backTo pos (starEach [] X.env)).any (·.1)=false:=by rfl):SN X G (.Call (.Name "sorted" p) [e] [] pos) (e1 fSort m) :=
 sn_callB call_sorted cn_sort hg hm (by decide +kernel) he (hs:=hs) (hpl:=hpl)
end
section
variable {X:Cx}
end
noncomputable def fSortD:D->Option D
 | .dic kvs=>if (kvs.all fun kv=>!kv.1.isEmpty)=true/\kvs.length < 65 then some (.lst ((sortK (kvs.map (·.1))).map kT)) else none
 | _=>none
section
variable {K:PySem.W.Frag} {H:Hp} {O:Addr->Prop}
end
section
variable {X:Cx} {G:Fc} {p pos:Pos} {e:Expr} {m:EV}
end
end M

set_option Elab.async false
set_option linter.all false
set_option maxRecDepth 100000
namespace M
open PySem PySem.Spec PyProof.Rows L2
noncomputable def xRetO (i:Nat):EX:=fun E=>match E[i]? with
 | some (.ow d)=>.ok (.rt d)
 | _=>.no
section
variable {X:Cx} {G:Fc} {st:Stmt} {rest:List Stmt} {m n:EX} {e:Expr} {me:EV} {pos:Pos}
noncomputable def spN (K:PySem.W.Frag) (n:Nat) (den:List D->R D):Sp:=fun vs H Q _=>vs.length=n/\∃ (pr:Addr->Prop) (ds:List D),(∀ a,pr a->∃ o,H a=some o/\NoTup o)/\Rps K H pr ds vs/\Fin (den ds) (fun d=>∀ a H',Same H H'->H a=none->Own K H' (fun b=>pr b\/b=a) d a->Q (.ref a) H') fun _=>False
structure CalN (P:Program) (w:World) (K:PySem.W.Frag) (mg:Str->Option Value) (base:Heap) (x:Str) (ps:List Str) (k:Nat) (dn:List D->R D):Prop where
 ex:∃ (f:Addr) (fd:FuncData),mg x=some (.ref f)/\PySem.W.keepIn K (.ref f)=true/\Binds K fd ps []/\FnOk P w K mg base CX0 k f fd ps (spN K ps.length dn)
end
section
variable {P:Program} {w:World} {K:PySem.W.Frag} {mg:Str->Option Value} {base:Heap} {x qual:Str} {st:Stmt} {f:Addr} {fd:FuncData} {N ps:List Str} {k:Nat} {m:EX}
end
section
variable {X:Cx} {G:Fc} {k j:Nat} {ps:List Str} {dn:List D->R D} {x:Str} {p pos:Pos} {e:Expr} {es:List Expr} {ma:Ev->R (List D)}
end
end M

set_option Elab.async false
set_option linter.all false
set_option maxRecDepth 100000
namespace M
open PySem PySem.W PySem.Spec PyProof.Rows L2
noncomputable def Itk (a:Addr) (o:Obj) (kvs:List (List Key × V)):It :=
 ⟨fun i H=>H a=some (.frz o (.dT kvs))/\i < kvs.length,fun i H x H'=>H'=H/\∃ k v b,kvs[i]?=some (k,v)/\x=.ref b/\H b=some (.tup (k.map kV)),fun i H=>H a=some (.frz o (.dT kvs))/\kvs.length<=i⟩
theorem raw_frz {X:Cx} {pins:List (Addr × Obj)} {σ:St} {H:Hp} {s:Shared} {a:Addr} {o:Obj} {kvs:List (List Key × V)} (I:Inv X pins σ H s) (h:H a=some (.frz o (.dT kvs))) :
  s.heap.get? a=some o/\o.ExactDict/\∃ es ep,o.data=.dict es ep/\es.size=kvs.length/\∀ (i:Nat) (e:DictEntry),es[i]?=some e->∃ k v b,kvs[i]?=some (k,v)/\e.key=.ref b/\RelV v e.val/\H b=some (.tup (k.map kV)):=by
 obtain ⟨g,z,y,xs,r,o',es,ep,h1,h2,h3,h4,h5⟩:=(show ObjOk X.prog X.w H s.heap a (.frz o (.dT kvs)) from I.hok a _ h)
 rw [g] at h1; cases h1
 have l:es.size=kvs.length:=by
  have:=congrArg List.length h4
  simp only [Array.length_toList,List.length_map] at this
  rw [this]; exact (Paired.length r).symm
 refine ⟨g,h2,es,ep,h3,l,fun i e he=>?_⟩
 have he':es.toList[i]?=some e:=by simpa using he
 rw [h4,List.getElem?_map] at he'
 cases q:xs[i]? with
 | none=>rw [q] at he'; cases he'
 | some p =>
  rw [q] at he'
  cases he'
  have hi:i < kvs.length:=by rw [<-l]; exact (Array.getElem?_eq_some_iff.mp he).1
  obtain ⟨p',e1,e2,e3,e4⟩:=paired_get r i kvs[i] (by simp [hi])
  rw [q] at e1; cases e1
  exact ⟨kvs[i].1,kvs[i].2,p.2.1,by simp [hi],rfl,e4,e3⟩
theorem turn_dict {P:Program} {w:World} {K:PySem.W.Frag} {tg:Expr} (a it:Addr) (o:Obj) (kvs:List (List Key × V)) (hx:o.ExactDict) (es:Array DictEntry) (ep:Nat) (hd:o.data=.dict es ep):Turn P w K tg (Itk a o kvs) [it] it (fun i h=>h.IsKeyIter it a i es.size ep) where
 mem:=by simp
 obj:=fun i h st b hb=>by
  have e:b=it:=by simpa using hb
  subst e
  obtain ⟨o,e,c,d⟩:=st
  exact ⟨o,e,fun v z=>by rw [d] at z; cases z⟩
 keep:=fun i h h' st k=>st.at fun o e=>k it (by simp) o e
 item:=by
  intro X hP hw hK hc i pins s σ H E I hf st hg
  subst hP hw hK
  obtain ⟨f0,f1,f2,f3,f4,f5⟩:=hf it (by simp)
  obtain ⟨g,_,es',ep',d',l',ent⟩:=raw_frz I hg.1
  rw [hd] at d'; cases d'
  have hi:i < es.size:=by rw [l']; exact hg.2
  obtain ⟨k,v,b,e1,e2,e3,e4⟩:=ent i es[i] (by simp [hi])
  refine raw_next st ⟨o,g,hx,hd⟩ (e:=es[i]) (by simp [hi]) fun h' st' sb=>?_
  have I1:Inv X pins σ H { s with heap:=h' }:=I.turned (t':=s.toks) (fun b o hb e=>(sb.2 b hb).trans e) f0 f1 f3 f4 f5
  obtain ⟨oi,e,c,d⟩:=id st'
  exact ⟨_,rfl,go_of (s:={ s with heap:=h' }) e c d (by decide) ⟨.ref b,H,I1,e2,⟨rfl,k,v,b,e1,rfl,e4⟩,st',fun b hb=>(hf b hb).1⟩⟩
 done:=by
  intro X hP hw hK hc i pins s σ H E I hf st hg
  subst hP hw hK
  obtain ⟨f0,f1,f2,f3,f4,f5⟩:=hf it (by simp)
  obtain ⟨g,_,es',ep',d',l',ent⟩:=raw_frz I hg.1
  rw [hd] at d'; cases d'
  exact raw_end (I.ok.hd hc) st ⟨o,g,hx,hd⟩ (by simp; rw [l']; exact hg.2) fun h' eb=>⟨rfl,I.turned (t':=s.toks) (fun b o hb e=>eb b o hb e) f0 f1 f3 f4 f5⟩
 self:=fun _ _ _ _ _ st h=>wpAny_pyIter_keyiter st h
noncomputable def iDk (tl:TE):TI:=fun σ H R=>tl σ H fun x H1=>∃ a o kvs,x=.ref a/\H1 a=some (.frz o (.dT kvs))/\R (Itk a o kvs) H1
theorem pi_dict {X:Cx} {tg l:Expr} {tl:TE} (hl:PE X l tl):PI X tg l (iDk tl):=by
 intro pins s σ H R I h
 refine thn (hl pins s σ H _ I h) ?_
 rintro v s1 ⟨x,H1,I1,r1,q1⟩
 obtain ⟨a,o,kvs,e,e2,q2⟩:=q1
 subst e
 cases r1
 obtain ⟨g,hx,es,ep,hd,l,ent⟩:=raw_frz I1 e2
 have lo:(a == sysModules)=false:=((I1.hok a _ e2).2).2.1
 refine raw_iter lo ⟨o,g,hx,hd⟩ ?_
 refine ⟨s1.heap.objs.size,[s1.heap.objs.size],_,_,H1,rfl,I1.kept (t':=s1.toks) fun b o e=>Heap.get?_push_of_some _ e,turn_dict a _ o kvs hx es ep hd,⟨_,Heap.get?_push_size _ rfl,rfl,rfl⟩,fun b hb=>?_,q2⟩
 have e:b=s1.heap.objs.size:=by simpa using hb
 subst e
 exact I1.fpOk (Nat.le_refl _) (I1.hok.fresh (Nat.le_refl _))
section
variable {X:Cx} {G:Fc} {tg iter:Expr}
theorem Rpk.at {K:PySem.W.Frag} {H:Hp} {O:Addr->Prop}:∀ {kvs:List (List Int × D)} {ws:List (List Key × V)} {i:Nat} {kd:List Int × D},Rpk K H O kvs ws->kvs[i]?=some kd->∃ v,ws[i]?=some (kd.1.map Sum.inl,v)/\Rp K H O kd.2 v
 | [],_,_,_,_,e=>by simp at e
 | (k,d) :: r,ws,0,kd,h,e=>by
  unfold Rpk at h
  obtain ⟨v,r',rfl,p,q⟩:=h
  simp at e; subst e
  unfold Rpq at p
  exact ⟨v,rfl,p⟩
 | (k,d) :: r,ws,i + 1,kd,h,e=>by
  unfold Rpk at h
  obtain ⟨v,r',rfl,p,q⟩:=h
  simpa using Rpk.at q (by simpa using e)
theorem key_rpT {K:PySem.W.Frag} {H:Hp} {O:Addr->Prop} {k:List Int} {b:Addr} (s:Sane H O) (h:H b=some (.tup ((k.map (Sum.inl:Int->Key)).map kV))):Rp K H O (kT k) (.ref b):=by
 unfold kT Rp
 refine ⟨b,k.map V.int,rfl,s.tup h,?_,rps_of_ints _⟩
 rw [h,List.map_map]; rfl
noncomputable def iK (m:EV):Ev->R (List D):=fun E=>m E >>= fun d=>match d with
 | .dic kvs=>.ok (kvs.map fun kv=>kT kv.1)
 | _=>.no
theorem si_dict {m:EV} (h:SF X G iter m):SI X G tg iter (iK m):=(pi_dict h).imp fun σ H Q z0=>z0.elim fun E z0=>z0.elim fun hr f=>⟨E,hr,(Fin.bind f).mono fun d p v H1 s1 z=>by
 cases d with
 | dic kvs =>
  unfold Rp at z
  obtain ⟨a,ws,rfl,no,⟨o,ha⟩,rs⟩:=z
  refine ⟨a,o,ws,rfl,ha,p _ H1 s1 fun G' E' σ' H' le r'=>?_⟩
  have hl':=(locked le r' _ _ no ha).1
  refine ⟨⟨hl',by simp [rs.length]⟩,fun i d hd=>?_⟩
  rw [List.getElem?_map,Option.map_eq_some_iff] at hd
  obtain ⟨kd,e1,rfl⟩:=hd
  obtain ⟨v,e2,_⟩:=rs.at e1
  refine ⟨⟨hl',(List.getElem?_eq_some_iff.mp e2).1⟩,fun x H'' ⟨e,k,v',b,e3,e4,e5⟩=>?_⟩
  subst e e4
  rw [e2] at e3; cases e3
  exact ⟨Same.refl _,key_rpT r'.sane e5⟩
 | _=>exact p.elim⟩
end
end M

set_option Elab.async false
set_option linter.all false
set_option maxRecDepth 100000
namespace M
open PySem PySem.W PySem.Spec PyProof.Rows L2
section
variable {prog:Program} {w:World} {A:Around} {E:Value->Shared->Prop} {s:Shared} {d it v:Addr} {es:Array DictEntry} {ep:Nat}
theorem raw_items {Q:Value->Shared->Prop} (hd:(d == sysModules)=false) (x:RawD s.heap d es ep) (q:Q (.ref s.heap.objs.size) { s with heap:=s.heap.push { cls:=.type "dict_items",data:=.fields #[.ref d] } }) :
  wpAny (model prog w) A (call (.builtin "dict.items") [.ref d]) Q E s:=by
 have hT:=x.type
 refine wpAny_call_entry F.slot_dict_items hT F.entry_dict_items ?_ (F.args_dict_items_1 _)
 unfold Builtin.«dict.items»
 refine wpAny_bind ?_
 unfold Builtin.Dict.noArgs
 refine wpAny_bind (wpAny_notOrdered_dict hT ?_)
 show wpAny _ _ (pure d) _ _ s
 refine wpAny_pure ?_
 show wpAny _ _ (Builtin.Dict.showsAll d >>= _) _ _ s
 unfold Builtin.Dict.showsAll
 rw [hd,if_neg Bool.false_ne_true]
 exact wpAny_bind (wpAny_pure (wpAny_bind (wpAny_newObj_type (wpAny_pure ⟨_,rfl,q⟩))))
theorem raw_iterI {Q:Value->Shared->Prop} (hv:s.heap.IsItemsView v d) (x:RawD s.heap d es ep)
  (hQ:Q (.ref s.heap.objs.size) { s with heap:=s.heap.push { cls:=.type "dict_itemiterator",data:=.fields #[.none,.bool false,.ref d,.int 0 0,.int es.size 0,.int ep 0,.none,.none] } }) :
  wpAny (model prog w) A (pyIter (.ref v)) Q E s:=by
 obtain ⟨ov,hov,hcv,hdv⟩:=id hv
 obtain ⟨o,ho,hc,hdat⟩:=id x
 refine wpAny_pyIter_slot hv.typeIs F.slot_dict_items_iter (wpAny_call_entry F.slot_dict_items_iter hv.typeIs F.entry_dict_items_iter ?_ (F.args_dict_items_iter_1 _))
 unfold Builtin.«dict_items.__iter__»
 refine wpAny_bind (wpAny_pure (wpAny_bind ?_))
 unfold Builtin.Dict_items.dictOf
 refine wpAny_bind (wpAny_field hov hdv (x:=.ref d) rfl (wpAny_pure (wpAny_bind ?_)))
 unfold Builtin.Dict_items.newIterator
 refine wpAny_bind (wpAny_dictEntries ho hdat (wpAny_bind (wpAny_dictEpoch ho hdat ?_)))
 simp only [show Builtin.Dict_items.ownsTuple "dict_itemiterator"=true by decide,if_true]
 refine wpAny_newObj_type (wpAny_pure ⟨_,rfl,"dict_itemiterator",_,⟨_,Heap.get?_push_size _ rfl,rfl⟩,F.slot_dict_itemiterator_next.lookup,?_⟩)
  (by simp only [sizeOk,Builtin.Dict_items.ownedTupleFields,List.size_toArray,List.length_append,List.length_cons,List.length_nil,sizeLine_eq]; omega)
 simpa [rawInt,Builtin.Dict_items.ownedTupleFields] using hQ
theorem raw_nextI {i:Nat} {e:DictEntry} {ok ov:Value} {Q:Option Value->Shared->Prop} (hit:IsItemIter s.heap it d i es.size ep ok ov) (x:RawD s.heap d es ep) (hx:es[i]?=some e)
  (hQ:∀ h',IsItemIterOut h' it d (i + 1) es.size ep e.key e.val s.heap.objs.size->h'.get? s.heap.objs.size=some { cls:=.type "tuple",data:=.seq #[e.key,e.val] } →
   (∀ b o,b ≠ it->s.heap.get? b=some o->h'.get? b=some o)->Q (some (.ref s.heap.objs.size)) { s with heap:=h' }):wpAny (model prog w) A (pyNext (.ref it)) Q E s:=by
 obtain ⟨hp,g,dr,tk,os⟩:=s
 obtain ⟨od,hod,hcd,hdd⟩:=x
 have hT:Shared.TypeIs ⟨hp,g,dr,tk,os⟩ (.ref it) "dict_itemiterator":=⟨_,hit,rfl⟩
 unfold pyNext
 refine wpAny_bind (wpAny_attempt (wpAny_callSpecial?_slot (name:=Str.ofString "__next__") hT F.slot_dict_itemiterator_next
  (wpAny_call_entry F.slot_dict_itemiterator_next hT F.entry_dict_itemiterator_next ?_ (F.args_dict_itemiterator_next_1 _))))
 refine wpAny_bind (wpAny_pure (wpAny_bind (wpAny_bind ?_)))
 first | refine wpAny_bind (wpAny_typeNameOfWhole_itemiter hT (wpAny_pure ?_)) | refine wpAny_bind (wpAny_typeNameOf_itemiter hT (wpAny_pure ?_))
 refine wpAny_bind (wpAny_fieldsOf hit rfl ?_)
 simp only [show Builtin.Dict_items.ownsTuple "dict_itemiterator"=true by decide,if_true]
 show wpAny _ _ (if (Value.ref d == Value.none)=true then _ else _) _ _ _
 rw [if_neg (show ¬ ((Value.ref d == Value.none)=true) from Bool.false_ne_true)]
 refine wpAny_bind (wpAny_pure (wpAny_bind (wpAny_dictEntries hod hdd ?_)))
 rw [if_neg (by simp)]
 refine wpAny_bind (wpAny_pure (wpAny_bind (wpAny_dictEpoch hod hdd ?_)))
 rw [if_neg (by simp)]
 refine wpAny_pure ?_
 simp only [show ¬ ((i:Int) < 0) from by omega,if_false,Int.toNat_natCast,hx]
 refine wpAny_bind ?_
 first | refine wpAny_bind (wpAny_typeNameOfWhole_itemiter hT (wpAny_pure ?_)) | refine wpAny_bind (wpAny_typeNameOf_itemiter hT (wpAny_pure ?_))
 refine wpAny_bind (wpAny_isOneOf_itemiter hT ?_)
 show wpAny _ _ (setField (.ref it) 3 (rawInt ((i:Int) + 1)) >>= _) _ _ ⟨hp,g,dr,tk,os⟩
 refine wpAny_bind (wpAny_setField_rec hit (by simp) fun h₁ he₁ hs₁=>?_)
 replace hs₁:Heap.SameBut it hp h₁:=hs₁
 replace he₁:IsItemIter h₁ it d (i + 1) es.size ep ok ov:=by
  have e:((i + 1:Nat):Int)=(i:Int) + 1:=by omega
  unfold IsItemIter; rw [e]; simpa [rawInt] using he₁
 have hT₁:Shared.TypeIs ⟨h₁,g,dr,tk,os⟩ (.ref it) "dict_itemiterator":=⟨_,he₁,rfl⟩
 refine wpAny_bind (wpAny_holding (wpAny_bind (wpAny_isOneOf_itemiter hT₁ (wpAny_bind (wpAny_isOneOf_itemiter hT₁ ?_)))))
 show wpAny _ _ (Builtin.Dict_items.pairFromOwner (.ref it) 6 e.key e.val) _ _ ⟨h₁,g,dr,tk,os⟩
 unfold Builtin.Dict_items.pairFromOwner
 refine wpAny_bind (wpAny_newTuple ?_)
 have he₂:IsItemIter (h₁.push { cls:=.type "tuple",data:=.seq #[e.key,e.val] }) it d (i + 1) es.size ep ok ov:=Heap.get?_push_of_some _ he₁
 generalize hh₂:h₁.push { cls:=.type "tuple",data:=.seq #[e.key,e.val] }=h₂ at he₂
 have hz₁:h₁.objs.size=hp.objs.size:=hs₁.1
 have hil:it < hp.objs.size:=Heap.lt_size hit
 have ht₂:h₂.get? hp.objs.size=some { cls:=.type "tuple",data:=.seq #[e.key,e.val] }:=by rw [<-hh₂,<-hz₁]; exact Heap.get?_push_size _ rfl
 have hk₂:∀ b o,b ≠ it->hp.get? b=some o->h₂.get? b=some o:=fun b o hb e=>by rw [<-hh₂]; exact Heap.get?_push_of_some _ (hs₁.extBut b o hb e)
 show wpAny _ _ (Builtin.Dict_items.ownedTupleIsFree (.ref it) >>= _) _ _ ⟨h₂,g,dr,tk,os⟩
 rw [hz₁]
 clear hh₂ he₁ hs₁ hT₁ hz₁ h₁
 refine wpAny_bind ?_
 unfold Builtin.Dict_items.ownedTupleIsFree
 refine wpAny_bind (wpAny_field he₂ rfl (x:=.none) rfl (wpAny_pure ?_))
 simp only [if_true]
 refine wpAny_bind (wpAny_field he₂ rfl (x:=ok) rfl (wpAny_bind (wpAny_field he₂ rfl (x:=ov) rfl ?_)))
 refine wpAny_bind (wpAny_setField_rec he₂ (by simp) fun h₃ he₃ hs₃=>?_)
 replace hs₃:Heap.SameBut it h₂ h₃:=hs₃
 replace he₃:IsItemIter h₃ it d (i + 1) es.size ep e.key ov:=he₃
 refine wpAny_bind (wpAny_setField_rec he₃ (by simp) fun h₄ he₄ hs₄=>?_)
 replace hs₄:Heap.SameBut it h₃ h₄:=hs₄
 replace he₄:IsItemIter h₄ it d (i + 1) es.size ep e.key e.val:=he₄
 refine wpAny_bind (wpAny_setField_rec he₄ (by simp) fun h₅ he₅ hs₅=>?_)
 replace hs₅:Heap.SameBut it h₄ h₅:=hs₅
 replace he₅:IsItemIterOut h₅ it d (i + 1) es.size ep e.key e.val hp.objs.size:=he₅
 refine wpAny_bind (wpAny_setField_rec he₅ (by simp) fun h₆ he₆ hs₆=>?_)
 replace hs₆:Heap.SameBut it h₅ h₆:=hs₆
 replace he₆:IsItemIterOut h₆ it d (i + 1) es.size ep e.key e.val hp.objs.size:=he₆
 refine wpAny_bind (wpAny_letGo (wpAny_pure (wpAny_pure ⟨_,rfl,wpAny_pure (hQ h₆ he₆ ?_ ?_)⟩)))
 ·exact hs₆.extBut _ _ (Nat.ne_of_gt hil) (hs₅.extBut _ _ (Nat.ne_of_gt hil) (hs₄.extBut _ _ (Nat.ne_of_gt hil) (hs₃.extBut _ _ (Nat.ne_of_gt hil) ht₂)))
 ·exact fun b o hb e=>hs₆.extBut b o hb (hs₅.extBut b o hb (hs₄.extBut b o hb (hs₃.extBut b o hb (hk₂ b o hb e))))
theorem raw_endI {i:Nat} {ok ov:Value} {Q:Option Value->Shared->Prop} (hh:A.handled=none) (hit:IsItemIter s.heap it d i es.size ep ok ov) (x:RawD s.heap d es ep) (hx:es[i]?=none)
  (hQ:∀ h',Heap.ExtBut it s.heap h'->Q none { s with heap:=h' }):wpAny (model prog w) A (pyNext (.ref it)) Q E s:=by
 obtain ⟨od,hod,hcd,hdd⟩:=x
 have hT:s.TypeIs (.ref it) "dict_itemiterator":=⟨_,hit,rfl⟩
 unfold pyNext
 refine wpAny_bind (wpAny_attempt (wpAny_callSpecial?_slot (name:=Str.ofString "__next__") hT F.slot_dict_itemiterator_next
  (wpAny_call_entry F.slot_dict_itemiterator_next hT F.entry_dict_itemiterator_next ?_ (F.args_dict_itemiterator_next_1 _))))
 refine wpAny_bind (wpAny_pure (wpAny_bind (wpAny_bind ?_)))
 first | refine wpAny_bind (wpAny_typeNameOfWhole_itemiter hT (wpAny_pure ?_)) | refine wpAny_bind (wpAny_typeNameOf_itemiter hT (wpAny_pure ?_))
 refine wpAny_bind (wpAny_fieldsOf hit rfl ?_)
 simp only [show Builtin.Dict_items.ownsTuple "dict_itemiterator"=true by decide,if_true]
 show wpAny _ _ (if (Value.ref d == Value.none)=true then _ else _) _ _ s
 rw [if_neg (show ¬ ((Value.ref d == Value.none)=true) from Bool.false_ne_true)]
 refine wpAny_bind (wpAny_pure (wpAny_bind (wpAny_dictEntries hod hdd ?_)))
 rw [if_neg (by simp)]
 refine wpAny_bind (wpAny_pure (wpAny_bind (wpAny_dictEpoch hod hdd ?_)))
 rw [if_neg (by simp)]
 refine wpAny_pure ?_
 simp only [show ¬ ((i:Int) < 0) from by omega,if_false,Int.toNat_natCast,hx]
 refine wpAny_bind ?_
 first | refine wpAny_bind (wpAny_typeNameOfWhole_itemiter hT (wpAny_pure ?_)) | refine wpAny_bind (wpAny_typeNameOf_itemiter hT (wpAny_pure ?_))
 show wpAny _ _ (setField (.ref it) 2 .none >>= _) _ _ s
 refine wpAny_bind (wpAny_setField hit rfl (by simp) ?_)
 show wpAny _ _ (newExc (.type "StopIteration") [] >>= _) _ _ _
 refine wpAny_bind ?_
 simp only [newExc,newTuple]
 refine wpAny_bind (wpAny_newObj_type ?_ (by size_fits))
 refine wpAny_bind (m:=firstArgMember _ _) (wpAny_of_eq (a:=Value.none) (by first | rfl | (simp only [firstArgMember]; rfl)) (wpAny_newObj_type ?_ (by size_fits)))
 simp only [raiseNew]
 refine wpAny_bind (wpAny_handled ?_)
 rw [show A.in1.handled=none from hh]
 refine wpAny_bind (wpAny_pure (wpAny_throw ?_))
 refine wpAny_bind (wpAny_isInstance (T:="StopIteration") (b:=true) ⟨_,Heap.get?_push_size _ rfl,rfl⟩ isSubtype_stop ?_)
 exact wpAny_pure (hQ _ (((Heap.SameBut.update ..).extBut.push _).push _))
end
end M

set_option Elab.async false
set_option linter.all false
set_option maxRecDepth 100000
namespace M
open PySem PySem.W PySem.Spec PyProof.Rows L2
noncomputable def Iti (a:Addr) (o:Obj) (kvs:List (List Key × V)):It :=
 ⟨fun i H=>H a=some (.frz o (.dT kvs))/\i < kvs.length,fun i H x H'=>∃ T k v b,kvs[i]?=some (k,v)/\x=.ref T/\H T=none/\H b=some (.tup (k.map kV))/\H'=upd H T (.tup [.ref b,v]),fun i H=>H a=some (.frz o (.dT kvs))/\kvs.length<=i⟩
theorem iter_items {prog:Program} {w:World} {A:Around} {E:Value->Shared->Prop} {s:Shared} {it d:Addr} {i n ep:Nat} {ok ov:Value} {Q:Value->Shared->Prop} (hit:IsItemIter s.heap it d i n ep ok ov) (h:Q (.ref it) s):wpAny (model prog w) A (pyIter (.ref it)) Q E s:=by
 have hT:s.TypeIs (.ref it) "dict_itemiterator":=⟨_,hit,rfl⟩
 refine wpAny_pyIter_slot hT F.slot_dict_itemiterator_iter (wpAny_call_entry F.slot_dict_itemiterator_iter hT PySem.W.kcp_entry ?_ (F.args_dict_itemiterator_iter_1 _))
 show wpAny _ _ (ret (.ref it)) _ _ s
 exact wpAny_pure ⟨_,rfl,"dict_itemiterator",_,hT,F.slot_dict_itemiterator_next.lookup,h⟩
theorem turn_items {P:Program} {w:World} {K:PySem.W.Frag} {elts:List Expr} {tk:Nat} {tpos:Pos} (a it:Addr) (o:Obj) (kvs:List (List Key × V)) (hx:o.ExactDict) (es:Array DictEntry) (ep:Nat) (hd:o.data=.dict es ep) :
  Turn P w K (.Tuple elts tk tpos) (Iti a o kvs) [it] it (fun i h=>∃ ok ov,IsItemIter h it a i es.size ep ok ov) where
 mem:=by simp
 obj:=fun i h st b hb=>by
  have e:b=it:=by simpa using hb
  subst e
  obtain ⟨ok,ov,e⟩:=st
  exact ⟨_,e,fun v z=>by cases z⟩
 keep:=fun i h h' st k=>by obtain ⟨ok,ov,e⟩:=st; exact ⟨ok,ov,k it (by simp) _ e⟩
 item:=by
  intro X hP hw hK hc i pins s σ H E I hf st hg
  subst hP hw hK
  obtain ⟨f0,f1,f2,f3,f4,f5⟩:=hf it (by simp)
  obtain ⟨g,_,es',ep',d',l',ent⟩:=raw_frz I hg.1
  rw [hd] at d'; cases d'
  have hi:i < es.size:=by rw [l']; exact hg.2
  obtain ⟨k,v,b,e1,e2,e3,e4⟩:=ent i es[i] (by simp [hi])
  obtain ⟨ok,ov,st⟩:=st
  have hil:it < s.heap.objs.size:=Heap.lt_size st
  refine raw_nextI st ⟨o,g,hx,hd⟩ (e:=es[i]) (by simp [hi]) fun h' st' hT hk=>⟨_,rfl,?_⟩
  refine wpAny_letOwnedTupleGo_items st' fun h'' st'' hs''=>?_
  have nT:H s.heap.objs.size=none:=I.hok.fresh (Nat.le_refl _)
  have hT':=hs''.extBut _ _ (Nat.ne_of_gt hil) hT
  have I':Inv X pins σ (upd H s.heap.objs.size (.tup [.ref b,v])) { s with heap:=h'',toks:=s.toks }:=turnLaid I hf (fun c o hc e=>by
    have hc:c ≠ it:=by simpa using hc
    exact hs''.extBut c o hc (hk c o hc e)) (Nat.le_refl _)
   ⟨by rw [sizeLine_eq]; simp,[es[i].key,es[i].val],.cons e2 (.cons e3 .nil),_,hT',rfl,0,rfl⟩
  exact ⟨.ref s.heap.objs.size,_,I',rfl,⟨_,k,v,b,e1,rfl,nT,e4,rfl⟩,⟨_,_,st''⟩,fun c hc=>by
   have hc:c=it:=by simpa using hc
   subst hc
   rw [upd_ne (Nat.ne_of_lt hil)]; exact f0⟩
 done:=by
  intro X hP hw hK hc i pins s σ H E I hf st hg
  subst hP hw hK
  obtain ⟨f0,f1,f2,f3,f4,f5⟩:=hf it (by simp)
  obtain ⟨g,_,es',ep',d',l',ent⟩:=raw_frz I hg.1
  rw [hd] at d'; cases d'
  obtain ⟨ok,ov,st⟩:=st
  exact raw_endI (I.ok.hd hc) st ⟨o,g,hx,hd⟩ (by simp; rw [l']; exact hg.2) fun h' eb=>⟨rfl,I.turned (t':=s.toks) (fun b o hb e=>eb b o hb e) f0 f1 f3 f4 f5⟩
 self:=fun _ _ _ _ _ st h=>by obtain ⟨ok,ov,st⟩:=st; exact iter_items st h
noncomputable def iDiT (tl:TE):TI:=fun σ H R=>tl σ H fun x H1=>∃ a o kvs,x=.ref a/\H1 a=some (.frz o (.dT kvs))/\R (Iti a o kvs) H1
section
variable {X:Cx} {G:Fc} {o tg:Expr} {apos cpos tpos:Pos} {elts:List Expr} {tk:Nat} {tl:TE}
theorem pi_items (ho:PE X o tl) (hbase:attributeBase o "items" X.env (eval o X.env)=eval o X.env:=by rfl) (hline:(apos.endLine == cpos.line)=true:=by rfl):PI X (.Tuple elts tk tpos) (.Call (.Attribute o "items" apos) [] [] cpos) (iDiT tl):=by
 intro pins s σ H R I h
 refine wpAny_Call_method0_late hbase hline (thn (ho pins s σ H _ I h) ?_)
 rintro v s1 ⟨x,H1,I1,r1,q1⟩
 obtain ⟨a,ob,kvs,rfl,e2,q2⟩:=q1
 cases r1
 obtain ⟨g,hx,es,ep,hd,l,ent⟩:=raw_frz I1 e2
 have lo:(a == sysModules)=false:=((I1.hok a _ e2).2).2.1
 have rw0:RawD s1.heap a es ep:=⟨ob,g,hx,hd⟩
 refine ⟨"dict","dict.items",F.plainAttrs_dict,F.slot_dict_items,F.type_dict_items,rw0.type,fun b eb=>by cases eb; exact ⟨ob,g,hx.2.1⟩,Calls.callWith_builtin rfl (PySem.evalArgs_none (raw_items lo rw0 ?_))⟩
 refine raw_iterI (d:=a) (es:=es) (ep:=ep) ⟨_,Heap.get?_push_size _ rfl,rfl,rfl⟩ (rw0.at fun o e=>Heap.get?_push_of_some _ e) ?_
 have I2:=I1.kept (h':=s1.heap.push { cls:=.type "dict_items",data:=.fields #[.ref a] }) (t':=s1.toks) fun b o e=>Heap.get?_push_of_some _ e
 refine ⟨_,[_],_,_,H1,rfl,I2.kept (t':=s1.toks) fun b o e=>Heap.get?_push_of_some _ e,turn_items a _ ob kvs hx es ep hd,⟨_,_,Heap.get?_push_size _ rfl⟩,fun b hb=>?_,q2⟩
 have e:=List.mem_singleton.mp hb
 subst e
 exact I2.fpOk (Nat.le_refl _) (I2.hok.fresh (Nat.le_refl _))
noncomputable def iDv (m:EV):Ev->R (List D):=fun E=>m E >>= fun d=>match d with
 | .dic kvs=>.ok (kvs.map fun kv=>kv.2)
 | _=>.no
noncomputable def iDi (m:EV):Ev->R (List D):=fun E=>m E >>= fun d=>match d with
 | .dic kvs=>.ok (kvs.map fun kv=>.tup [kT kv.1,kv.2])
 | _=>.no
theorem si_items {m:EV} (gd:Gd X) (h:SF X G o m) (hbase:attributeBase o "items" X.env (eval o X.env)=eval o X.env:=by rfl) (hline:(apos.endLine == cpos.line)=true:=by rfl):SI X G (.Tuple elts tk tpos) (.Call (.Attribute o "items" apos) [] [] cpos) (iDi m) :=
 (pi_items h hbase hline).imp fun σ H Q z0=>z0.elim fun E z0=>z0.elim fun hr f=>⟨E,hr,(Fin.bind f).mono fun d p v H1 s1 z=>by
 cases d with
 | dic kvs =>
  unfold Rp at z
  obtain ⟨a,ws,rfl,no,⟨o,ha⟩,rs⟩:=z
  refine ⟨a,o,ws,rfl,ha,p _ H1 s1 fun G' E' σ' H' le r'=>?_⟩
  have hl':=(locked le r' _ _ no ha).1
  refine ⟨⟨hl',by simp [rs.length]⟩,fun i d hd=>?_⟩
  rw [List.getElem?_map,Option.map_eq_some_iff] at hd
  obtain ⟨kd,e1,rfl⟩:=hd
  obtain ⟨v,e2,pv⟩:=rs.at e1
  refine ⟨⟨hl',(List.getElem?_eq_some_iff.mp e2).1⟩,fun x H'' ⟨T,k,v',b,e3,e4,nT,hb,e5⟩=>?_⟩
  subst e4 e5
  rw [e2] at e3; cases e3
  have sm:=same_upd (o:=.tup [.ref b,v]) nT
  refine ⟨sm,?_⟩
  unfold Rp
  refine ⟨T,[.ref b,v],rfl,r'.fresh nT,upd_same,Rps.cons ((key_rpT r'.sane hb).mono sm fun _ z=>z) (Rps.cons ((pv.move (locked le r')).mono sm fun _ z=>z) Rps.nil)⟩
 | _=>exact p.elim⟩
end
end M

set_option Elab.async false
set_option linter.all false
set_option maxRecDepth 100000
namespace M
open PySem PySem.W PySem.Spec PyProof.Rows L2
section
variable {X:Cx} {G:Fc} {o k z:Expr} {mo mk mz:EV} {apos cpos:Pos}
end
end M

set_option Elab.async false
set_option linter.all false
set_option maxRecDepth 100000
namespace M
open PySem PySem.W PySem.Spec PyProof.Rows L2
noncomputable def small:List (List Int):=(List.range 9).flatMap fun a=>(List.range 9).map fun b=>[Int.ofNat a,Int.ofNat b]
noncomputable def hsh (k:List Int):Int:=reduceHash (Builtin.Tuple.tupleHashOf (k.map hashInt))
section
variable {prog:Program} {w:World} {A:Around} {E:Value->Shared->Prop} {s:Shared} {d:Addr} {o:Obj} {es:Array DictEntry} {ep:Nat}
end

section
variable {X:Cx}
end

noncomputable def fDcopy:D->Option D
 | .dic kvs=>if (kvs.all fun kv=>decide (kv.1 ∈ small))=true then some (.dic kvs) else none
 | _=>none
section
variable {X:Cx} {G:Fc} {p pos:Pos} {e:Expr} {m:EV}
end
end M

set_option Elab.async false
set_option linter.all false
set_option maxRecDepth 100000
namespace M
open PySem PySem.Spec PyProof.Rows L2
theorem len1 {α:Type}:∀ {us:List α},us.length=1->∃ a,us=[a]
 | [a],_=>⟨a,rfl⟩
theorem len2 {α:Type} {us:List α} (h:us.length=2):∃ a b,us=[a,b]:=by
 cases us with
 | nil=>cases h
 | cons a us=>obtain ⟨b,e⟩:=len1 (Nat.succ.inj h); exact ⟨a,b,by rw [e]⟩
theorem len3 {α:Type} {us:List α} (h:us.length=3):∃ a b c,us=[a,b,c]:=by
 cases us with
 | nil=>cases h
 | cons a us=>obtain ⟨b,c,e⟩:=len2 (Nat.succ.inj h); exact ⟨a,b,c,by rw [e]⟩
theorem len4 {α:Type} {us:List α} (h:us.length=4):∃ a b c d,us=[a,b,c,d]:=by
 cases us with
 | nil=>cases h
 | cons a us=>obtain ⟨b,c,d,e⟩:=len3 (Nat.succ.inj h); exact ⟨a,b,c,d,by rw [e]⟩
noncomputable def flatsB:List D->Bool
 | []=>true
 | d :: r=>flatB d && flatsB r
noncomputable def rowB:D->Bool
 | .tup ds=>flatsB ds
 | d=>flatB d
noncomputable def rowsB:List D->Bool
 | []=>true
 | d :: r=>rowB d && rowsB r
noncomputable def rows2:D->R D
 | .lst ds=>if rowsB ds=true then .ok (.lst ds) else .no
 | _=>.no
noncomputable def eLooseN (i:Nat) (m:EV):EV:=fun E=>match E[i]? with
 | some (.ow (.lst _))=>m (frz i E) >>= rows2
 | _=>.no
section
variable {K:PySem.W.Frag} {H:Hp} {O:Addr->Prop} {a:Addr} {us:List V}
end
section
variable {X:Cx} {G:Fc} {e:Expr} {m:EV}
end
end M

set_option Elab.async false
set_option linter.all false
set_option maxRecDepth 100000
namespace M
open PySem PySem.Spec PyProof.Rows L2
noncomputable def Pin (i:Nat) (a:Addr) (σ:St):Prop:=σ[i]?=some (some (.ref a))
noncomputable def orA (pr:Addr->Prop) (a:Addr):Addr->Prop:=fun b=>pr b\/b=a
noncomputable def xRetP (i:Nat) (m:EV):EX:=fun E=>match E[i]? with
 | some (.ow (.dic c))=>m E >>= fun d=>.ok (.rt (.tup [d,.dic c]))
 | _=>.no
section
variable {X:Cx} {G:Fc} {i:Nat} {a:Addr} {st:Stmt} {rest:List Stmt} {m n:EX} {e:Expr} {me:EV} {pos:Pos}
end
section
variable {X:Cx} {G:Fc} {i:Nat} {a:Addr} {elt iter tg:Expr} {ifs:List Expr} {body:List Stmt} {scope:Scope} {pos:Pos} {ts:List Nat} {set:D->Ev->Option Ev} {mi:Ev->R (List D)} {mt:Ev->R Bool} {me:EV} {mb:EX}
end
open Classical in
noncomputable def offA (H:Hp) (a:Addr):Hp:=fun b=>if b=a then none else H b
theorem offA_ne {H:Hp} {a b:Addr} (h:b ≠ a):offA H a b=H b:=by unfold offA; rw [if_neg h]
theorem offA_eq {H:Hp} {a:Addr}:offA H a a=none:=by unfold offA; rw [if_pos rfl]
theorem offA_same (H:Hp) (a:Addr):Same (offA H a) H:=fun b o h=>by
 by_cases e:b=a
 ·subst e; rw [offA_eq] at h; cases h
 ·rw [offA_ne e] at h; exact h
noncomputable abbrev Kvs:=List (List Int × D)
noncomputable def spM (K:PySem.W.Frag) (n:Nat) (dn:List D->Kvs->R (D × Kvs)):Sp:=fun vs H Q _=>vs.length=n/\∃ (pr:Addr->Prop) (ds:List D) (us:List V) (a:Addr) (c:Kvs),vs=us++[.ref a]/\ds.length + 1=n/\¬ pr a/\(∀ b,pr b->∃ o,H b=some o/\NoTup o) ∧
 Rps K H (orA pr a) ds us/\Own K H (orA pr a) (.dic c) a/\Fin (dn ds c) (fun p=>∀ v H',Same (offA H a) H'->Rp K H' (orA pr a) p.1 v->Own K H' (orA pr a) (.dic p.2) a->Q v H') fun _=>False
structure CalM (P:Program) (w:World) (K:PySem.W.Frag) (mg:Str->Option Value) (base:Heap) (x:Str) (ps:List Str) (k:Nat) (dn:List D->Kvs->R (D × Kvs)):Prop where
 ex:∃ (f:Addr) (fd:FuncData),mg x=some (.ref f)/\PySem.W.keepIn K (.ref f)=true/\Binds K fd ps []/\FnOk P w K mg base CX0 k f fd ps (spM K ps.length dn)
section
variable {P:Program} {w:World} {K:PySem.W.Frag} {mg:Str->Option Value} {base:Heap} {x qual:Str} {st:Stmt} {f:Addr} {fd:FuncData} {N ps:List Str} {k i:Nat} {m:EX}
end
section
variable {X:Cx} {G:Fc} {e:Expr} {es:List Expr} {me:EV} {ma:Ev->R (List D)} {j:Nat}
theorem Rel.changed {K:PySem.W.Frag} {E:Ev} {σ:St} {H H':Hp} {a:Addr} {c c':Kvs} (r:Rel K G E σ H) (hj:E[j]?=some (.ow (.dic c))) (pn:Pin j a σ) (s:Same (offA H a) H') (ow:Own K H' (Ow G.pr E σ) (.dic c') a):Rel K G (E.set j (.ow (.dic c'))) σ H':=by
 obtain ⟨a0,e1,e2,e3⟩:=r.ow j _ hj
 have ea:a0=a:=by unfold Pin at pn; rw [e1] at pn; cases pn; rfl
 subst ea
 have jl:j < E.length:=(List.getElem?_eq_some_iff.mp hj).1
 have osub:∀ b,Ow G.pr (E.set j (.ow (.dic c'))) σ b->Ow G.pr E σ b:=fun b h=>by
  rcases h with h | ⟨i,d,h1,h2⟩
  ·exact .inl h
  ·rcases get_set h1 with ⟨rfl,_⟩ | ⟨_,h1⟩
   ·exact .inr ⟨i,_,hj,h2⟩
   ·exact .inr ⟨i,d,h1,h2⟩
 have mv:∀ b o,¬ Ow G.pr E σ b->H b=some o->H' b=some o/\¬ Ow G.pr (E.set j (.ow (.dic c'))) σ b:=fun b o nb h=>by
  have hne:b ≠ a0:=fun q=>by subst q; exact nb (.inr ⟨j,_,hj,e1⟩)
  exact ⟨s _ _ (by rw [offA_ne hne]; exact h),fun z=>nb (osub b z)⟩
 refine ⟨by simp [r.len],fun i d h=>?_,fun i d h=>?_,fun i k d e b h1 h2 h3 h4=>?_,fun b o h=>?_,r.prt⟩
 ·rcases get_set h with ⟨_,z⟩ | ⟨_,h⟩
  ·cases z
  ·obtain ⟨v,q1,q2⟩:=r.fz i d h
   exact ⟨v,q1,q2.move mv⟩
 ·rcases get_set h with ⟨q,z⟩ | ⟨n1,h⟩
  ·cases z; subst q
   exact ⟨a0,e1,ow.mono (Same.refl _) osub,e3⟩
  ·obtain ⟨b,q1,q2,q3⟩:=r.ow i d h
   have hne:b ≠ a0:=fun q=>by subst q; exact n1 (r.ne i j d _ b h hj q1 e1)
   refine ⟨b,q1,?_,q3⟩
   cases d with
   | lst ds=>obtain ⟨vs,w1,w2⟩:=q2; exact ⟨vs,s _ _ (by rw [offA_ne hne]; exact w1),w2.move mv⟩
   | dic ds=>obtain ⟨vs,w1,w2⟩:=q2; exact ⟨vs,s _ _ (by rw [offA_ne hne]; exact w1),w2.move mv⟩
   | _=>exact q2.elim
 ·have back:∀ {i:Nat} {d:D},(E.set j (.ow (.dic c')))[i]?=some (.ow d)->∃ d',E[i]?=some (.ow d'):=fun {i d} h=>by
   rcases get_set h with ⟨rfl,_⟩ | ⟨_,h⟩
   ·exact ⟨_,hj⟩
   ·exact ⟨_,h⟩
  obtain ⟨d',w1⟩:=back h1
  obtain ⟨e',w2⟩:=back h2
  exact r.ne i k d' e' b w1 w2 h3 h4
 ·have hne:b ≠ a0:=fun q=>by subst q; rw [e3] at h; cases h
  exact s _ _ (by rw [offA_ne hne]; exact r.base _ _ h)
noncomputable def xIfM (j n:Nat) (dn:List D->Kvs->R (D × Kvs)) (ma:Ev->R (List D)) (mo:EV) (ta tb:EX):EX:=fun E=>match E[j]? with
 | some (.ow (.dic c))=>ma E >>= fun ds=>if ds.length + 1=n then dn ds c >>= fun p=>mo (E.set j (.ow (.dic p.2))) >>= fun y=>ofO (fNe p.1 y) >>= fun z=>match z with
  | .bl true=>ta (E.set j (.ow (.dic p.2)))
  | .bl false=>tb (E.set j (.ow (.dic p.2)))
  | _=>.no
  else .no
 | _=>.no
end
end M

set_option Elab.async false
set_option linter.all false
set_option maxRecDepth 100000
namespace M
open PySem PySem.Spec PyProof.Rows L2
noncomputable def xRetT (m:EV) (j:Nat):EX:=fun E=>match E[j]? with
 | some (.ow y)=>m E >>= fun d=>.ok (.rt (.tup [d,y]))
 | _=>.no
section
variable {X:Cx} {G:Fc} {st:Stmt} {rest:List Stmt} {m n:EX} {e:Expr} {me:EV} {pos tpos:Pos}
end
noncomputable def spT (K:PySem.W.Frag) (n:Nat) (den:List D->R D):Sp:=fun vs H Q _=>vs.length=n/\∃ (pr:Addr->Prop) (ds:List D),(∀ a,pr a->∃ o,H a=some o/\NoTup o)/\Rps K H pr ds vs/\Fin (den ds) (fun d=>∀ t a v H' x y,d=.tup [x,y]->Same H H'->H a=none->H' t=some (.tup [v,.ref a])->Own K H' (orA pr a) y a->Q (.ref t) H') fun _=>False
structure CalT (P:Program) (w:World) (K:PySem.W.Frag) (mg:Str->Option Value) (base:Heap) (x:Str) (ps:List Str) (k:Nat) (dn:List D->R D):Prop where
 ex:∃ (f:Addr) (fd:FuncData),mg x=some (.ref f)/\PySem.W.keepIn K (.ref f)=true/\Binds K fd ps []/\FnOk P w K mg base CX0 k f fd ps (spT K ps.length dn)
section
variable {P:Program} {w:World} {K:PySem.W.Frag} {mg:Str->Option Value} {base:Heap} {x qual:Str} {st:Stmt} {f:Addr} {fd:FuncData} {N ps:List Str} {k:Nat} {m:EX}
end
section
variable {X:Cx} {G:Fc} {k j:Nat} {ps:List Str} {dn:List D->R D} {x:Str} {p pos:Pos} {e:Expr} {es:List Expr} {ma:Ev->R (List D)}
end
end M

set_option Elab.async false
set_option linter.all false
set_option maxRecDepth 100000
namespace M
open PySem PySem.Spec PyProof.Rows L2
structure Loose (G:Fc) (E:Ev) (σ:St) (H H':Hp) (js:List Nat) (n:Nat) (as:List Addr):Prop where
 len:as.length=n
 nd:as.Nodup
 lst:∀ a ∈ as,∃ vs,H' a=some (.lst vs)/\vs.length < 999000
 h0:∀ a ∈ as,G.h0 a=none
 out:∀ a ∈ as,H a=none\/∃ j ∈ js,∃ d,E[j]?=some (.ow d)/\σ[j]?=some (some (.ref a))
noncomputable def oOwn (j:Nat) (m:Ev->R (List D)):Ev->R (List D):=fun E=>match E[j]? with
 | some (.ow (.lst ds))=>if ds.length < 999000 then m E else .no
 | _=>.no
section
variable {X:Cx} {G:Fc} {e:Expr} {es:List Expr} {me:EV} {mo:Ev->R (List D)} {js:List Nat} {j:Nat}
end
end M

set_option Elab.async false
set_option linter.all false
set_option maxRecDepth 100000
namespace M
open PySem PySem.W PySem.Spec PyProof.Rows L2 PySem.Calls
structure XCls (K:PySem.W.Frag) (C:Addr):Prop where
 ga:findIn K (.ref C) "__getattribute__"=some (some (.builtin "BaseException.__getattribute__"))
 gn:findIn K (.ref C) "__getattr__"=some none
 cl:findIn K (.ref C) "__class__"=some (some (.builtin "object.__class__"))
 be:mroIn K C (.type "BaseException")=some true
 ob:mroIn K C (.type "object")=some true
section
variable {prog:Program} {w:World} {A:Around} {E:Value->Shared->Prop} {h:Heap} {g:Array GenState} {d:Drawn} {t:Nat} {os:OsState} {a C:Addr} {o:Obj} {vs:Array Value} {K:PySem.W.Frag}
end
end M

set_option Elab.async false
set_option linter.all false
set_option maxRecDepth 100000
namespace M
open PySem PySem.W PySem.Spec PyProof.Rows L2 PySem.Calls
structure Fly (P:Program) (w:World) (l:List Env) (H:Hp) (s:Shared) (C e:Addr) (H':Hp) (s':Shared):Prop where
 os:s'.os=s.os
 bare:AllBare s'.gens
 un:Un (frs l) [] H H' s.heap s'.heap
 hok:HOk P w H' s'.heap
 same:Same H H'
 fr:H' e=none
 fl:∃ B t,Heap.FlyingW B l e (.ref C) (.ref t) s'.heap/\(∀ b o,s.heap.get? b=some o->H b=none->b ∉ frs l->B.get? b=some o)/\∀ b u o,H' b=some u->s'.heap.get? b=some o->B.get? b=some o
section
variable {X:Cx} {pins:List (Addr × Obj)} {σ:L2.St} {H H':Hp} {s s':Shared} {B h':Heap} {C e:Addr}
end
end M

set_option Elab.async false
set_option linter.all false
set_option maxRecDepth 100000
namespace M
open PySem PySem.W PySem.Spec PyProof.Rows L2 PySem.Calls
noncomputable def cname:Nat->Str
 | 0=>"NoFloor"
 | 1=>"NoLaying"
 | 2=>"NotPlain"
 | 3=>"NoTurn"
 | 4=>"NoNumber"
 | _=>"NoNote"
structure Link (X:Cx) (G:Fc):Prop where
 made:∀ {pins:List (Addr × Obj)} {σ:L2.St} {H:Hp} {s:Shared} {h':Heap} {e C:Addr} {c:Nat} {args:List Value},Inv X pins σ H s->Same G.h0 H->X.mg (cname c)=some (.ref C)->G.xc c->Heap.MadeExcOf s.heap h' e (.ref C) args->X.xe (.ref e) { s with heap:=h' }
 flew:∀ {pins:List (Addr × Obj)} {σ:L2.St} {H:Hp} {s:Shared} {H':Hp} {s':Shared} {e C:Addr} {c:Nat},Inv X pins σ H s->Same G.h0 H->X.mg (cname c)=some (.ref C)->G.xc c->Fly X.prog X.w X.stack H s C e H' s'->X.xe (.ref e) s'
noncomputable def CXE (P:Program) (w:World):CXT:=fun outer H s E e s'=>∃ a C H',e=.ref a/\Fly P w outer H s C a H' s'/\E e (some C) H'
noncomputable def spE (K:PySem.W.Frag) (mg:Str->Option Value) (n:Nat) (den:List D->R D):Sp:=fun vs H Q E=>vs.length=n/\∃ (pr:Addr->Prop) (ds:List D),(∀ a,pr a->∃ o,H a=some o/\NoTup o)/\Rps K H pr ds vs/\Fin (den ds) (fun d=>∀ v H',Same H H'->Rp K H' pr d v->Q v H') fun c=>∀ e C H',mg (cname c)=some (.ref C)->Same H H'->E e (some C) H'
structure CalE (P:Program) (w:World) (K:PySem.W.Frag) (mg:Str->Option Value) (base:Heap) (x:Str) (ps:List Str) (k:Nat) (dn:List D->R D):Prop where
 ex:∃ (f:Addr) (fd:FuncData),mg x=some (.ref f)/\PySem.W.keepIn K (.ref f)=true/\Binds K fd ps []/\FnOk P w K mg base (CXE P w) k f fd ps (spE K mg ps.length dn)
section
variable {P:Program} {w:World} {K:PySem.W.Frag} {mg:Str->Option Value} {base:Heap} {x qual:Str} {st:Stmt} {f:Addr} {fd:FuncData} {N ps:List Str} {k:Nat} {m:EX}
end
noncomputable def calm {α:Type} (m:Ev->R α):Ev->R α:=fun E=>match m E with
 | .ok a=>.ok a
 | _=>.no
@[simp] theorem calm_ok {α:Type} {m:Ev->R α} {E:Ev} {a:α} (h:m E=.ok a):calm m E=.ok a:=by unfold calm; rw [h]
noncomputable def Fc.calm (G:Fc):Fc:={ G with xc:=fun _=>False }
section
variable {X:Cx} {G:Fc}
end
section
variable {X:Cx} {G:Fc} {k:Nat} {f:Addr} {fd:FuncData} {ps:List Str} {dn:List D->R D} {x:Str} {p pos:Pos} {e:Expr} {es:List Expr} {ma:Ev->R (List D)} {sp:Sp} {CX:CXT}
end
end M

set_option Elab.async false
set_option linter.all false
set_option maxRecDepth 100000
namespace M
open PySem PySem.W PySem.Spec PyProof.Rows L2 PySem.Calls
section
variable {X:Cx} {G:Fc}
end
structure XTop (K:PySem.W.Frag) (D:Addr):Prop extends XCls K D where
 ty:typeIn K (.ref D)=some (.type "type")
end M

set_option Elab.async false
set_option linter.all false
set_option maxRecDepth 100000
namespace M
open PySem PySem.W PySem.Spec PyProof.Rows L2 PySem.Calls
noncomputable def HT (X:Cx) (a:Addr) (i:Nat) (e:Expr) (b:Bool):Prop:=PT X e fun σ H Q=>σ[i]?=some (some (.ref a))/\Q b H
noncomputable def HS (X:Cx) (a:Addr) (i:Nat) (sts:List Stmt) (v:V):Prop:=PSs X sts fun D σ H=>σ[i]?=some (some (.ref a))/\D.rt v H
section
variable {X:Cx} {a C:Addr} {i:Nat} {e e':Expr} {v:V} {b b':Bool} {p p2 p3 pos:Pos} {n y:Str} {sts rest:List Stmt}
end
end M

set_option Elab.async false
set_option linter.all false
set_option maxRecDepth 100000
namespace M
open PySem PySem.W PySem.Spec PyProof.Rows L2 PySem.Calls
section
variable {X:Cx} {pins:List (Addr × Obj)} {σ:L2.St} {H H':Hp} {s s':Shared} {B h':Heap} {C e:Addr} {o:Obj}
noncomputable abbrev hcx (X:Cx) (e:Addr) (o:Obj):Cx:={ X with A:=X.A.mark (some (.ref e)),calm:=false,pn:=(e,o) :: X.pn,xe:=fun _ _=>False }
end
section
variable {X:Cx} {G:Fc} {k j:Nat} {ps:List Str} {dn:List D->R D} {x:Str} {p pos pos':Pos} {e:Expr} {es:List Expr} {ma:Ev->R (List D)}
end
end M

set_option Elab.async false
set_option linter.all false
set_option maxRecDepth 100000
namespace M
open PySem PySem.W PySem.Spec PyProof.Rows L2 PySem.Calls
structure Took (X:Cx) (i:Nat) (D:Addr) (sts:List Stmt) (hd:Nat->Option M.D):Prop where
 at_:∀ c d C e o vs,hd c=some d->X.mg (cname c)=some (.ref C)->o.cls=.ref C->o.data=.fields vs->mroIn X.K C (.ref D)=some true/\∃ v,HS (hcx X e o) e i sts v/\∀ K H O,Rp K H O d v
section
variable {X:Cx} {G:Fc}
end
end M

set_option Elab.async false
set_option linter.all false
set_option maxRecDepth 100000
namespace M
open PySem PySem.W PySem.Spec PyProof.Rows L2 PySem.Calls
noncomputable def hush (dn:List D->R D):List D->R D:=fun ds=>match dn ds with
 | .ok d=>.ok d
 | _=>.no
end M

set_option Elab.async false
set_option linter.all false
set_option maxRecDepth 100000
namespace M
open PySem PySem.W PySem.Spec PyProof.Rows L2 PySem.Calls
theorem vals_ints:∀ {ns:List Int} {its:List Value},Vals (ns.map V.int) its->∃ xs:List (Int × Tok),its=xs.map (fun p=>.int p.1 p.2)/\xs.map (·.1)=ns
 | [],its,h=>by cases h; exact ⟨[],rfl,rfl⟩
 | n :: ns,its,h=>by
  cases h with
  | cons a b =>
   obtain ⟨t,rfl⟩:=a
   obtain ⟨xs,rfl,rfl⟩:=vals_ints b
   exact ⟨(n,t) :: xs,rfl,rfl⟩
noncomputable def nums:List D->Option (List Int)
 | []=>some []
 | .int b :: r=>(nums r).map (b :: ·)
 | _ :: _=>none
@[simp] theorem nums_map:∀ bs:List Int,nums (bs.map D.int)=some bs
 | []=>rfl
 | n :: ns=>by simp [nums,nums_map ns]
noncomputable def fSum:D->Option D
 | .lst ds=>(nums ds).map fun bs=>.int bs.sum
 | _=>none
noncomputable def fShl:D->D->Option D
 | .int i,.int j=>if 0<=j/\j<=1000/\i.natAbs < 2 ^ 63 then some (.int (i * 2 ^ j.toNat)) else none
 | _,_=>none
section
variable {X:Cx} {G:Fc} {e a b:Expr} {m ma mb:EV} {p pos:Pos}
end
end M

set_option Elab.async false
set_option linter.all false
set_option maxRecDepth 100000
namespace M
open PySem PySem.W PySem.Spec PyProof.Rows L2 PySem.Calls
noncomputable def spanI (b w:Int):Int:=Builtin.bitAnd b (-b) * (if w=0 then 3 else 513)
noncomputable def okI (b w:Int):Bool:=decide (Builtin.bitAnd b (spanI b w)=spanI b w)
noncomputable def WF:Nat->Int->Int
 | 0,_=>1
 | n + 1,b=>if b=0 then 1 else (if okI b 0=true then WF n (b - spanI b 0) else 0) + (if okI b 1=true then WF n (b - spanI b 1) else 0)
noncomputable def Dp:Nat->Int->Prop
 | 0,b=>b=0
 | n + 1,b=>b=0\/∀ w:Int,(w=0\/w=1)->okI b w=true->Dp n (b - spanI b w)
noncomputable def WM (b:Int):Int:=WF 40 b
noncomputable def wayI (b w:Int):Int:=if okI b w=true then WM (b - spanI b w) else 0
noncomputable def Good (kvs:List (Key × V)):Prop:=∀ p ∈ kvs,∃ j:Int,p.1=.inl j/\p.2=.int (WM j)
noncomputable def spO (n:Nat):Sp:=fun vs H Q _=>∃ b k kvs,vs=[.int b,.ref k]/\H k=some (.dK kvs)/\Good kvs/\Dp n b/\n<=20/\kvs.length + 2 ^ n<=2 ^ 21/\∀ kvs',Good kvs'->kvs'.length + 1<=kvs.length + 2 ^ n->Q (.int (WM b)) (upd H k (.dK kvs'))
noncomputable def dpB:Nat->Int->Bool
 | 0,b=>decide (b=0)
 | n + 1,b=>decide (b=0) || ((!(okI b 0) || dpB n (b - spanI b 0)) && (!(okI b 1) || dpB n (b - spanI b 1)))
structure CalW (P:Program) (w:World) (K:PySem.W.Frag) (mg:Str->Option Value) (base:Heap) (k n:Nat):Prop where
 ex:∃ (f:Addr) (fd:FuncData),mg "ways_over"=some (.ref f)/\PySem.W.keepIn K (.ref f)=true/\Binds K fd ["bare","known"] []/\FnOk P w K mg base CX0 k f fd ["bare","known"] (spO n)
section
variable {X:Cx} {G:Fc} {e:Expr} {m:EV} {p pos dp:Pos} {j k n:Nat}
end
end M

set_option Elab.async false
set_option linter.all false
set_option maxRecDepth 100000
namespace M
open PySem PySem.W PySem.Spec PyProof.Rows L2 PySem.Calls
end M

set_option Elab.async false
set_option linter.all false
set_option maxRecDepth 100000
namespace M
open PySem PySem.W PySem.Spec PyProof.Rows L2 PySem.Calls
noncomputable def fsq (b:Int):Int × Int:=(((Builtin.Int.intBits (Builtin.bitAnd b (-b)):Int) - 1) / 9,((Builtin.Int.intBits (Builtin.bitAnd b (-b)):Int) - 1) % 9)
noncomputable def toldL:Nat->Int->Int->Int->List D
 | 0,_,_,_=>[]
 | k + 1,b,n,a=>if b=0 then [] else if n < a + wayI b 0 then .tup [.int (fsq b).1,.int (fsq b).2,.int 0] :: toldL k (b - spanI b 0) n a
  else .tup [.int (fsq b).1,.int (fsq b).2,.int 1] :: toldL k (b - spanI b 1) n (a + wayI b 0)
noncomputable def dTold (cf bo:List D->R D):List D->R D:=fun ds=>match ds with
 | [f,.int n]=>hush cf [f] >>= fun _=>hush bo [f] >>= fun d=>match d with
  | .int b=>if dpB 12 b=true then (if 0<=n/\n < WM b then .ok (.lst (toldL 12 b n 0)) else .er 4) else .no
  | _=>.no
 | _=>.no
section
variable {X:Cx}
end
end M

set_option Elab.async false
set_option linter.all false
set_option maxRecDepth 100000
set_option maxHeartbeats 4000000
namespace HT
open PySem PyProof.Rows
section
open PySem.SeqAt
open PySem.AutoSeq1 (wpAny_loadPart')
open PySem.MeetsSeq PySem.MeetsSeq2 PySem.MeetsSeq3
noncomputable def ltFrom (n n2:Nat) (e lt:Nat->Bool):Nat->Nat->Bool
 | 0,_=>decide (n < n2)
 | k + 1,i=>if i < n2 then (if e i=true then ltFrom n n2 e lt k (i + 1) else lt i) else decide (n < n2)
end
section
variable {prog:Program} {w:World} {A:Around} {E:Value->Shared->Prop} {s:Shared}
end
end HT
namespace M
open PySem PySem.W PySem.Spec PyProof.Rows L2 PySem.Calls
noncomputable def lexLL:List (List Int)->List (List Int)->Bool
 | [],[]=>false
 | [],_ :: _=>true
 | _ :: _,[]=>false
 | x :: xs,y :: ys=>if x=y then lexLL xs ys else HT.lexLt x y
noncomputable def rowsI:List D->Option (List (List Int))
 | []=>some []
 | .tup ds :: r=>(nums ds).bind fun a=>(rowsI r).map (a :: ·)
 | _ :: _=>none
noncomputable def fLtL (dx dy:D):Option D:=match dx,dy with
 | .lst as,.lst bs=>(rowsI as).bind fun ns=>(rowsI bs).map fun ms=>.bl (lexLL ns ms)
 | _,_=>none
end M

set_option Elab.async false
set_option linter.all false
set_option maxRecDepth 100000
namespace M
open PySem PySem.W PySem.Spec PyProof.Rows L2 PySem.Calls
noncomputable def numL:Int->Int->List D->Option D
 | _,a,[]=>some (.int a)
 | b,a,.tup [_,_,.int w] :: r=>if (w=0\/w=1)/\dpB 12 b=true then numL (b - spanI b w) (if w=1 then a + wayI b 0 else a) r else none
 | _,_,_ :: _=>none
noncomputable def dNum (cl bo:List D->R D):List D->R D:=fun ds=>match ds with
 | [f,.lst gs]=>hush cl [f,.lst gs] >>= fun _=>hush bo [f] >>= fun d=>match d with
  | .int b=>if gs.length<=32 then ofO (numL b 0 gs) else .no
  | _=>.no
 | _=>.no
end M

set_option Elab.async false
set_option linter.all false
set_option maxRecDepth 100000
namespace TS
open PySem PySem.SetTable
noncomputable def adv (mask:Nat) (p:Probe):Probe :=
 if p.more > 0 then { p with j:=p.j + 1,more:=p.more - 1 } else
 { p with j:=(leap mask p.i p.perturb).1,more:=runEnd mask (leap mask p.i p.perturb).1 - (leap mask p.i p.perturb).1,i:=(leap mask p.i p.perturb).1,perturb:=(leap mask p.i p.perturb).2 }
@[simp] theorem advance_eq (t:SetTable) (p:Probe):t.advance p=adv t.mask p:=rfl
noncomputable def st (mask i pert:Nat):Probe:={ j:=i,more:=runEnd mask i - i,i:=i,perturb:=pert,dummy:=none }
noncomputable def pth (mask:Nat) (h:Int):Nat->Probe
 | 0=>st mask (bits h % (mask + 1)) (bits h)
 | n + 1=>adv mask (pth mask h n)
noncomputable def stepF (mask i:Nat):Nat:=(i * 5 + 1) % (mask + 1)
noncomputable def iter (mask:Nat):Nat->Nat->Nat
 | 0,i=>i
 | r + 1,i=>stepF mask (iter mask r i)
noncomputable def Msk (mask:Nat):Prop:=mask=7\/mask=31\/mask=127
end TS

set_option Elab.async false
set_option linter.all false
set_option maxRecDepth 100000
namespace TS
open PySem PySem.SetTable
structure Inc (xs:Array Nat):Prop where
 lt:∀ a b (ha:a < xs.size) (hb:b < xs.size),a < b->xs[a] < xs[b]
structure TOk (t:SetTable) (hs:List Int):Prop where
 msk:Msk t.mask
 dum:t.dummies=#[]
 inc:Inc t.place
 len:t.place.size=hs.length
 bnd:∀ x ∈ t.place.toList,x<=t.mask
 path:∀ (i j:Nat) (h:Int),t.place.toList[i]?=some j->hs[i]?=some h->∃ n,n < 10 * (t.mask + 15)/\(pth t.mask h n).j=j/\∀ m,m < n->(pth t.mask h m).j ∈ t.place.toList
section
variable {t:SetTable} {hs:List Int}
end
end TS

set_option Elab.async false
set_option linter.all false
set_option maxRecDepth 100000
namespace TS
open PySem PySem.SetTable
noncomputable abbrev Own:=Array (Option Nat)
noncomputable def occ (o:Own) (j:Nat):Bool:=(o.getD j none).isSome
noncomputable def lives (mask:Nat) (o:Own):List (Nat × Nat):=(List.range (mask + 1)).filterMap fun j=>(o.getD j none).map (j,·)
structure LOk (mask:Nat) (o:Own) (hs:List Int):Prop where
 size:o.size=mask + 1
 live:((lives mask o).map (·.2)).Perm (List.range hs.length)
 path:∀ (j c:Nat) (h:Int),o.getD j none=some c->hs[c]?=some h->∃ n,n < 10 * (mask + 15)/\(pth mask h n).j=j/\∀ m,m < n->occ o (pth mask h m).j=true
end TS

set_option Elab.async false
set_option linter.all false
set_option maxRecDepth 100000
namespace TS
open PySem PySem.SetTable PyProof.Rows
section
variable {prog:Program} {w:World} {A:Around} {E:Value->Shared->Prop} {s:Shared}
noncomputable abbrev hT (prog:Program) (w:World) (k:List Int):Int:=tupleKeyHash (intKind prog w) k
noncomputable abbrev IsT (prog:Program) (w:World) (h:Heap) (k:List Int) (p:Addr):Prop:=IsTupleKey (intKind prog w) h k p
noncomputable def ent (prog:Program) (w:World) (q:List Int × Addr):Int × Value:=(hT prog w q.1,.ref q.2)
structure SetAt (prog:Program) (w:World) (h:Heap) (a:Addr) (o:Obj) (es:Array (Int × Value)) (ep:Nat) (t:SetTable) (ps:List (List Int × Addr)):Prop where
 get:h.get? a=some o
 ex:o.ExactSet
 data:o.data=.set es ep t
 ents:es.toList=ps.map (ent prog w)
 tab:TOk t (ps.map fun q=>hT prog w q.1)
 room:ps.length * 5 < t.mask * 3
 plain:t.plain=true
 keys:∀ q ∈ ps,IsT prog w h q.1 q.2
 nd:(ps.map (·.1)).Nodup
variable {a:Addr} {o:Obj} {es:Array (Int × Value)} {ep:Nat} {t:SetTable} {ps:List (List Int × Addr)}
end
end TS

set_option Elab.async false
set_option linter.all false
set_option maxRecDepth 100000
set_option maxHeartbeats 4000000
namespace TS
open PySem PySem.SetTable PyProof.Rows
section
variable {prog:Program} {w:World} {A:Around} {R:Result->Shared->Prop} {I:Addr} {fp wr:List Addr} {G:Array GenState->Array GenState->Prop} {n:Nat} {P:Nat->Value->Prop} {St:Nat->Shared->Prop}
end
section
variable {prog:Program} {w:World} {A:Around} {E:Value->Shared->Prop} {s:Shared}
end
end TS

set_option Elab.async false
set_option linter.all false
set_option maxRecDepth 100000
set_option maxHeartbeats 4000000
namespace TS
open PySem PySem.SetTable PyProof.Rows PySem.W
section
variable {prog:Program} {w:World} {A:Around} {E:Value->Shared->Prop} {s:Shared}
variable {a:Addr} {o:Obj} {es:Array (Int × Value)} {ep:Nat} {t:SetTable} {ps:List (List Int × Addr)}
structure SetIt (prog:Program) (w:World) (h:Heap) (a:Addr) (o:Obj) (es:Array (Int × Value)) (ep:Nat) (t:SetTable) (ps:List (List Int × Addr)):Prop where
 get:h.get? a=some o
 ex:o.ExactSet
 data:o.data=.set es ep t
 size:es.size=ps.length
 tab:TOk t (ps.map fun q=>hT prog w q.1)
 fits:t.fits es.size=true
 plain:t.plain=true
end
end TS

set_option Elab.async false
set_option linter.all false
set_option maxRecDepth 100000
set_option maxHeartbeats 4000000
namespace TS
open PySem PySem.SetTable PyProof.Rows PySem.W
section
variable {prog:Program} {w:World} {A:Around} {E:Value->Shared->Prop} {s:Shared}
variable {a it:Addr} {o:Obj} {es:Array (Int × Value)} {ep:Nat} {t:SetTable} {ps:List (List Int × Addr)}
end
end TS

set_option Elab.async false
set_option linter.all false
set_option maxRecDepth 100000
set_option maxHeartbeats 4000000
namespace M
open PySem PySem.W PySem.Spec PyProof.Rows L2 PySem.Calls TS
noncomputable def dd:List (List Int)->List (List Int)
 | []=>[]
 | k :: r=>if k ∈ dd r then dd r else k :: dd r
structure SetOk (prog:Program) (w:World) (H:Hp) (es:Array (Int × Value)) (t:SetTable) (ps:List (List Int × Addr)) (ks:List (List Int)):Prop where
 led:t.led=(!w.params.followText "set-order")
 ents:es.toList=ps.map (ent prog w)
 keys:∀ q ∈ ps,H q.2=some (.tup (q.1.map V.int))
 mem:∀ k,k ∈ ps.map (·.1) ↔ k ∈ ks
 nd:(ps.map (·.1)).Nodup
 len:ps.length<=ks.length
theorem items_are {prog:Program} {w:World}:∀ {k:List Int} {its:List Value},Vals (k.map V.int) its->ItemsAre (intKind prog w) k its
 | [],_,h=>by cases h; exact .nil
 | n :: r,_,h=>by
  cases h with
  | cons h1 h2 =>
   obtain ⟨tk,rfl⟩:=h1
   exact .cons (intKind_is _ _ _ _) (items_are h2)
section
variable {X:Cx}
end
noncomputable def fSortSet:D->Option D
 | .lst ds=>(dTups ds).bind fun ks=>if ks.length < 60 then some (.lst ((sortK (dd ks)).map kT)) else none
 | _=>none
section
variable {X:Cx} {G:Fc} {p p2 pos pos2:Pos} {e:Expr} {m:EV}
end
end M

set_option Elab.async false
set_option linter.all false
set_option maxRecDepth 100000
namespace M
open PySem PySem.Spec PyProof.Rows L2
noncomputable def Pin2 (i:Nat) (a b:Addr) (σ:St):Prop:=Pin i a σ/\Pin (i + 1) b σ
noncomputable abbrev or2 (pr:Addr->Prop) (a b:Addr):Addr->Prop:=orA (orA pr a) b
noncomputable abbrev off2 (H:Hp) (a b:Addr):Hp:=offA (offA H a) b
noncomputable def OutQ (K:PySem.W.Frag) (G:Fc) (i:Nat) (a b:Addr) (Dn:Ends):Out->Prop
 | .nx E=>∀ σ H,Pin2 i a b σ->Rel K G E σ H->Dn.nx σ H
 | .bk E=>∀ σ H,Pin2 i a b σ->Rel K G E σ H->Dn.bk σ H
 | .ct E=>∀ σ H,Pin2 i a b σ->Rel K G E σ H->Dn.ct σ H
 | .rt d=>∀ x c c' v H,d=.tup [x,.dic c,.dic c']->Same G.h0 H->Rp K H (or2 G.pr a b) x v->Own K H (or2 G.pr a b) (.dic c) a->Own K H (or2 G.pr a b) (.dic c') b->Dn.rt v H
noncomputable def RdQ (X:Cx) (G:Fc) (i:Nat) (a b:Addr) (m:EX):TS:=fun Dn σ H=>Pin2 i a b σ/\∃ E,Rel X.K G E σ H/\Fin (m E) (OutQ X.K G i a b Dn) G.xc
noncomputable def SSQ (X:Cx) (G:Fc) (i:Nat) (a b:Addr) (st:Stmt) (m:EX):Prop:=PS X st (RdQ X G i a b m)
noncomputable def SBQ (X:Cx) (G:Fc) (i:Nat) (a b:Addr) (st:List Stmt) (m:EX):Prop:=PSs X st (RdQ X G i a b m)
noncomputable def xRetQ (i:Nat) (m:EV):EX:=fun E=>match E[i]?,E[i + 1]? with
 | some (.ow (.dic c)),some (.ow (.dic c'))=>m E >>= fun d=>.ok (.rt (.tup [d,.dic c,.dic c']))
 | _,_=>.no
noncomputable def STc (X:Cx) (G:Fc) (e:Expr) (m:Ev->R (Bool × Ev)):Prop :=
 PT X e fun σ H Q=>∃ E,Rel X.K G E σ H/\Fin (m E) (fun p=>∀ H',Rel X.K G p.2 σ H'->Q p.1 H') G.xc
noncomputable def xIfC (m:Ev->R (Bool × Ev)) (ta tb:EX):EX:=fun E=>m E >>= fun p=>if p.1=true then ta p.2 else tb p.2
noncomputable def cNot (m:Ev->R (Bool × Ev)):Ev->R (Bool × Ev):=fun E=>m E >>= fun p=>.ok (!p.1,p.2)
noncomputable def cOr (t:Ev->R Bool) (m:Ev->R (Bool × Ev)):Ev->R (Bool × Ev):=fun E=>t E >>= fun k=>if k=true then .ok (true,E) else m E
section
variable {X:Cx} {G:Fc} {i:Nat} {a b:Addr} {st:Stmt} {rest:List Stmt} {m n:EX} {e:Expr} {me:EV} {pos:Pos}
theorem sbq_nil:SBQ X G i a b [] xNil:=pss_nil.imp fun D σ H h=>by
 obtain ⟨pn,E,hr,f⟩:=h
 exact f σ H pn hr
theorem sbq_one (h1:SSQ X G i a b st m):SBQ X G i a b [st] m:=pss_one h1
theorem sbq_cons (h1:SSQ X G i a b st m) (h2:SBQ X G i a b rest n):SBQ X G i a b (st :: rest) (xSeq m n):=(pss_cons h1 h2).imp fun D σ H h=>by
 obtain ⟨pn,E,hr,f⟩:=h
 refine ⟨pn,E,hr,(Fin.bind f).mono fun o p=>?_⟩
 cases o with
 | nx E'=>exact fun σ' H' p' r'=>⟨p',E',r',p⟩
 | bk E'=>exact p
 | ct E'=>exact p
 | rt d=>exact p
theorem ssq_if {c:Expr} {ta tb:List Stmt} {tc:Ev->R Bool} {ma mb:EX} (hc:ST X G c tc) (ha:SBQ X G i a b ta ma) (hb:SBQ X G i a b tb mb):SSQ X G i a b (.If c ta tb pos) (xIf tc ma mb):=(ps_if hc ha hb).imp fun D σ H h=>by
 obtain ⟨pn,E,hr,f⟩:=h
 refine ⟨E,hr,(Fin.bind f).mono fun k p H' s=>?_⟩
 cases k with
 | true=>exact ⟨pn,E,hr.same s,p⟩
 | false=>exact ⟨pn,E,hr.same s,p⟩
theorem ssq_ifC {c:Expr} {ta tb:List Stmt} {tc:Ev->R (Bool × Ev)} {ma mb:EX} (hc:STc X G c tc) (ha:SBQ X G i a b ta ma) (hb:SBQ X G i a b tb mb):SSQ X G i a b (.If c ta tb pos) (xIfC tc ma mb):=(ps_if hc ha hb).imp fun D σ H h=>by
 obtain ⟨pn,E,hr,f⟩:=h
 refine ⟨E,hr,(Fin.bind f).mono fun p q H' r=>?_⟩
 obtain ⟨k,E'⟩:=p
 cases k with
 | true=>exact ⟨pn,E',r,q⟩
 | false=>exact ⟨pn,E',r,q⟩
theorem ss_ifC {c:Expr} {ta tb:List Stmt} {tc:Ev->R (Bool × Ev)} {ma mb:EX} (hc:STc X G c tc) (ha:SB X G ta ma) (hb:SB X G tb mb):SS X G (.If c ta tb pos) (xIfC tc ma mb):=(ps_if hc ha hb).imp fun D σ H h=>by
 obtain ⟨E,hr,f⟩:=h
 refine ⟨E,hr,(Fin.bind f).mono fun p q H' r=>?_⟩
 obtain ⟨k,E'⟩:=p
 cases k with
 | true=>exact ⟨E',r,q⟩
 | false=>exact ⟨E',r,q⟩
theorem stc_not {c:Expr} {tc:Ev->R (Bool × Ev)} (hc:STc X G c tc):STc X G (.UnaryOp .Not c pos) (cNot tc):=(pt_not hc).imp fun σ H Q ⟨E,hr,f⟩=>⟨E,hr,(Fin.bind f).mono fun p q H' r=>q H' r⟩
theorem stc_or {c d:Expr} {tc:Ev->R Bool} {td:Ev->R (Bool × Ev)} (hc:ST X G c tc) (hd:STc X G d td):STc X G (.BoolOp .Or [c,d] pos) (cOr tc td):=(PW.pt (pw_or hc (pw_or1 hd))).imp fun σ H Q ⟨E,hr,f⟩=>⟨E,hr,(Fin.bind f).mono fun k p H' s'=>by
 cases k with
 | false=>exact ⟨E,hr.same s',p⟩
 | true=>exact p H' (hr.same s')⟩
theorem ssq_dput (j:Nat) {x:Str} {k v:Expr} {mk mv:EV} {p pos':Pos} (hu:X.A.units + 1 < cLine) (hk:SE X G k mk) (hv:SF X G v mv) (hN:X.N[j]?=some x:=by rfl) (hvs:Vis X.env.scope x:=by first | exact Or.inl rfl | exact Or.inr (Or.inl rfl) | exact Or.inr (Or.inr rfl)) (hd:(x == ("__debug__":Str))=false:=by decide) (hcd:(x == ("__classdict__":Str))=false:=by decide)
  (hs:swapsWith v (some (.Subscript (.Name x p) k pos')) pos.line X.env=pure false:=by rfl):SSQ X G i a b (.Assign [.Subscript (.Name x p) k pos'] v pos) (xDput j mk mv) :=
 (ps_dput hu (pe_var hN hvs hd hcd) hk hv hs).imp fun D σ H h=>by
  obtain ⟨pn,E,hr,f⟩:=h
  unfold xDput at f
  split at f
  ·rename_i kvs hi
   obtain ⟨a,vs,e1,e2,e3,e4⟩:=own_slotD hr hi
   refine ⟨E,hr,(Fin.bind f).mono fun d f v H1 s1 z1=>⟨_,e1,⟨E,hr.same s1,(Fin.bind f).mono fun k f w H2 s2 z2=>?_⟩⟩⟩
   cases ek:keyOf k with
   | none=>rw [ek] at f; exact f.elim
   | some ks =>
    rw [ek] at f
    dsimp only at f
    split at f
    ·rename_i hl
     obtain ⟨b,rfl,hb⟩:=key_of' ek z2
     have s:=s1.trans s2
     have e2':=s _ _ e2
     refine ⟨a,_,rfl,DPut.t e2' hb (by rw [e3.length,sizeLine_eq]; omega),f _ _ pn ((hr.same s).write hi e1 ⟨_,upd_same,?_⟩)⟩
     exact Rpk.write e4 (Rpk.put (e3.mono s fun _ z=>z) (z1.mono s2 fun _ z=>z))
    ·exact f.elim
  ·exact f.elim
theorem pin_own {K:PySem.W.Frag} {E:Ev} {σ:St} {H:Hp} {j:Nat} {a:Addr} {d:D} (r:Rel K G E σ H) (hj:E[j]?=some (.ow d)) (pn:Pin j a σ):Own K H (Ow G.pr E σ) d a/\G.h0 a=none/\Ow G.pr E σ a:=by
 obtain ⟨a0,e1,e2,e3⟩:=r.ow j _ hj
 have ea:a0=a:=by unfold Pin at pn; rw [e1] at pn; cases pn; rfl
 subst ea
 exact ⟨e2,e3,.inr ⟨j,d,hj,e1⟩⟩
theorem ssq_ret (he:SF X G e me):SSQ X G i a b (.Return (some e) pos) (xRetQ i me):=(ps_ret he).imp fun D σ H h=>by
 obtain ⟨pn,E,hr,f⟩:=h
 unfold xRetQ at f
 split at f
 ·rename_i c c' hi hi'
  refine ⟨E,hr,(Fin.bind f).mono fun d p v H' s z=>?_⟩
  obtain ⟨o1,_,w1⟩:=pin_own (hr.same s) hi pn.1
  obtain ⟨o2,_,w2⟩:=pin_own (hr.same s) hi' pn.2
  have sub:∀ x,or2 G.pr a b x->Ow G.pr E σ x:=fun x hx=>by
   rcases hx with (hx | hx) | hx
   ·exact .inl hx
   ·rw [hx]; exact w1
   ·rw [hx]; exact w2
  exact p _ _ _ v H' rfl (hr.base.trans s) (z.mono (Same.refl _) sub) (o1.mono (Same.refl _) sub) (o2.mono (Same.refl _) sub)
 ·exact f.elim
end
section
variable {X:Cx} {G:Fc} {i:Nat} {a b:Addr} {iter tg:Expr} {body:List Stmt} {pos:Pos} {ts:List Nat} {set:D->Ev->Option Ev} {mi:Ev->R (List D)} {mb:EX}
theorem ssq_for (gd:Gd X) (hi:SI X G tg iter mi) (hg:SG X tg ts set) (hb:∀ G',G'.xc=G.xc->SBQ X G' i a b body mb) (hts:i ∉ ts/\i + 1 ∉ ts:=by decide) (hs:∀ x,foldedSetIterable iter X.env x=pure x:=by intro _; rfl):SSQ X G i a b (.For tg iter body [] pos) (xFor mi set mb):=by
 obtain ⟨g,hg,hset⟩:=hg
 rintro pins s σ0 H0 Dn I ⟨pn0,E0,hr0,f0⟩
 have key:PS X (.For tg iter body [] pos) (tFor (fun σ H Rr=>∃ E,Rel X.K G E σ H/\Fin (mi E) (fun ds=>∀ J H1,Same H H1->ItOk X.K (G.lock E σ H1) J ds->Rr J H1) G.xc) g
   (fun Dn σ H=>∃ G',G'.xc=G.xc/\RdQ X G' i a b mb Dn σ H)) :=
  ps_for gd.po gd.calm hi hg (by
   rintro pins s σ H D I ⟨G',e,h⟩
   exact hb G' e pins s σ H D I h) hs
 refine key pins s σ0 H0 Dn I ⟨E0,hr0,(Fin.bind f0).mono fun ds f J H1 s1 it=>?_⟩
 have hr1:=hr0.same s1
 have hsub:=hr1.sub
 have wk:∀ {E:Ev} {σ:St} {H:Hp},Rel X.K (G.lock E0 σ0 H1) E σ H->Rel X.K G E σ H:=fun r=>r.weak hsub rfl hr0.prt
 refine ⟨fun k m σ H=>Pin2 i a b σ/\∃ E,Rel X.K (G.lock E0 σ0 H1) E σ H/\k<=ds.length/\m=ds.length - k/\Fin (forL set mb (ds.drop k) E) (OutQ X.K G i a b Dn) G.xc,⟨ds.length,pn0,E0,hr1.lock,Nat.zero_le _,by simp,by simpa using f⟩,?_⟩
 rintro k m σ H ⟨pn,E,r,hi',rfl,f⟩
 obtain ⟨h1,h2⟩:=it _ E σ H (Fc.Le.refl _) r
 by_cases hlt:k < ds.length
 ·obtain ⟨go,yl⟩:=h2 k ds[k] (by simp [hlt])
  rw [List.drop_eq_getElem_cons hlt] at f
  unfold forL at f
  cases hse:set ds[k] E with
  | none=>rw [hse] at f; exact f.elim
  | some E1 =>
   rw [hse] at f
   refine .inr ⟨go,fun σ' H'=>Pin2 i a b σ'/\∃ E2,Rel X.K (G.lock E0 σ0 H1) E2 σ' H'/\Fin (forL set mb (ds.drop (k + 1)) E2) (OutQ X.K G i a b Dn) G.xc,fun σ' H' h=>?_,fun x H' y=>?_⟩
   ·obtain ⟨p2,E2,r2,f2⟩:=h
    exact ⟨ds.length - (k + 1),by omega,p2,E2,r2,hlt,rfl,f2⟩
   ·obtain ⟨s2,px⟩:=yl x H' y
    refine hset _ E E1 σ H' ds[k] x _ (r.same s2) px hse fun σ' hσ' r'=>⟨G.lock E0 σ0 H1,rfl,?_,E1,r',(Fin.bind f).mono fun o p=>?_⟩
    ·unfold Pin2 Pin; rw [hσ' i hts.1,hσ' (i + 1) hts.2]; exact pn
    ·cases o with
     | nx E2=>exact fun σ2 H2 p2 r2=>⟨p2,E2,r2,p⟩
     | ct E2=>exact fun σ2 H2 p2 r2=>⟨p2,E2,r2,p⟩
     | bk E2=>exact fun σ2 H2 p2 r2=>p σ2 H2 p2 (wk r2)
     | rt d=>exact fun x c c' v H2 e s2 z1 z2 z3=>p x c c' v H2 e (hsub.trans s2) z1 z2 z3
 ·have e:k=ds.length:=by omega
  subst e
  rw [List.drop_length] at f
  exact .inl ⟨h1,f σ H pn (wk r)⟩
end
noncomputable def spQ (K:PySem.W.Frag) (n:Nat) (dn:List D->Kvs->Kvs->R (D × Kvs × Kvs)):Sp:=fun vs H Q _=>vs.length=n/\∃ (pr:Addr->Prop) (ds:List D) (us:List V) (a b:Addr) (c c':Kvs),vs=us++[.ref a,.ref b]/\ds.length + 2=n/\¬ pr a/\¬ pr b/\a ≠ b/\(∀ x,pr x->∃ o,H x=some o/\NoTup o) ∧
 Rps K H (or2 pr a b) ds us/\Own K H (or2 pr a b) (.dic c) a/\Own K H (or2 pr a b) (.dic c') b/\Fin (dn ds c c') (fun p=>∀ v H',Same (off2 H a b) H'->Rp K H' (or2 pr a b) p.1 v->Own K H' (or2 pr a b) (.dic p.2.1) a->Own K H' (or2 pr a b) (.dic p.2.2) b->Q v H') fun _=>False
noncomputable def startQ (n:Nat) (ds:List D) (c c':Kvs):Ev:=ds.map Sl.fz++.ow (.dic c) :: .ow (.dic c') :: List.replicate (n - (ds.length + 2)) .un
noncomputable def endedQ (r:R Out):R (D × Kvs × Kvs):=r >>= fun o=>match o with
 | .rt (.tup [d,.dic c,.dic c'])=>.ok (d,c,c')
 | _=>.no
noncomputable def denQ (n:Nat) (m:EX):List D->Kvs->Kvs->R (D × Kvs × Kvs):=fun ds c c'=>endedQ (m (startQ n ds c c'))
theorem rel_startQ {K:PySem.W.Frag} {H:Hp} {pr:Addr->Prop} {xc:Nat->Prop} {N:List Str} {ds:List D} {us:List V} {a b:Addr} {c c':Kvs} (na:¬ pr a) (nb:¬ pr b) (nab:a ≠ b) (hp:∀ x,pr x->∃ o,H x=some o/\NoTup o) (rs:Rps K H (or2 pr a b) ds us) (ow:Own K H (or2 pr a b) (.dic c) a) (ow':Own K H (or2 pr a b) (.dic c') b) :
  Rel K ⟨off2 H a b,pr,xc⟩ (startQ N.length ds c c') (L2.start N (us++[.ref a,.ref b])) H/\Pin2 ds.length a b (L2.start N (us++[.ref a,.ref b])):=by
 have ul:=rs.length
 have pin:Pin ds.length a (L2.start N (us++[.ref a,.ref b])):=by
  unfold Pin L2.start
  rw [List.map_append,List.append_assoc,List.getElem?_append_right (by simp [ul]),List.length_map,ul]
  simp
 have pin':Pin (ds.length + 1) b (L2.start N (us++[.ref a,.ref b])):=by
  unfold Pin L2.start
  rw [List.map_append,List.append_assoc,List.getElem?_append_right (by simp [ul]),List.length_map,ul]
  simp
 have own_at:∀ (i:Nat) d,(startQ N.length ds c c')[i]?=some (.ow d)->(i=ds.length/\d=.dic c)\/(i=ds.length + 1/\d=.dic c'):=fun i d h=>by
  unfold startQ at h
  rcases Nat.lt_or_ge i ds.length with hi | hi
  ·rw [List.getElem?_append_left (by simpa using hi),List.getElem?_map] at h
   cases q:ds[i]? with
   | none=>rw [q] at h; cases h
   | some x=>rw [q] at h; cases h
  ·rw [List.getElem?_append_right (by simpa using hi),List.length_map] at h
   match k:i - ds.length with
   | 0=>rw [k] at h; simp at h; exact .inl ⟨by omega,h.symm⟩
   | 1=>rw [k] at h; simp at h; exact .inr ⟨by omega,h.symm⟩
   | n + 2 =>
    rw [k,List.getElem?_cons_succ,List.getElem?_cons_succ,List.getElem?_replicate] at h
    split at h<;>cases h
 have sub:∀ x,Ow pr (startQ N.length ds c c') (L2.start N (us++[.ref a,.ref b])) x->or2 pr a b x:=fun x h=>by
  rcases h with h | ⟨i,d,h1,h2⟩
  ·exact .inl (.inl h)
  ·rcases own_at i d h1 with ⟨rfl,_⟩ | ⟨rfl,_⟩
   ·have:=pin
    unfold Pin at this
    rw [h2] at this; cases this; exact .inl (.inr rfl)
   ·have:=pin'
    unfold Pin at this
    rw [h2] at this; cases this; exact .inr rfl
 have offb:off2 H a b b=none:=offA_eq
 have offa:off2 H a b a=none:=by show offA (offA H a) b a=none; rw [offA_ne nab,offA_eq]
 refine ⟨⟨?_,fun i d h=>?_,fun i d h=>?_,fun i j d e x h1 h2 h3 h4=>?_,fun x o h=>offA_same _ _ _ _ (offA_same _ _ _ _ h),fun x hx=>?_⟩,pin,pin'⟩
 ·unfold startQ L2.start
  simp [ul]
 ·have hlt:i < ds.length:=by
   rcases Nat.lt_or_ge i ds.length with hi | hi
   ·exact hi
   ·unfold startQ at h
    rw [List.getElem?_append_right (by simpa using hi),List.length_map] at h
    match k:i - ds.length with
    | 0=>rw [k] at h; simp at h
    | 1=>rw [k] at h; simp at h
    | n + 2 =>
     rw [k,List.getElem?_cons_succ,List.getElem?_cons_succ,List.getElem?_replicate] at h
     split at h<;>cases h
  unfold startQ at h
  rw [List.getElem?_append_left (by simpa using hlt),List.getElem?_map] at h
  cases q:ds[i]? with
  | none=>rw [q] at h; cases h
  | some x =>
   rw [q] at h
   cases h
   obtain ⟨v,e1,e2⟩:=rs.get q
   refine ⟨v,?_,e2.mono (Same.refl _) sub⟩
   unfold L2.start
   rw [List.map_append,List.append_assoc,List.getElem?_append_left (by simp [ul]; exact hlt),List.getElem?_map,e1]
   rfl
 ·rcases own_at i d h with ⟨rfl,rfl⟩ | ⟨rfl,rfl⟩
  ·exact ⟨a,pin,ow.mono (Same.refl _) sub,offa⟩
  ·exact ⟨b,pin',ow'.mono (Same.refl _) sub,offb⟩
 ·have pa:=pin
  have pb:=pin'
  unfold Pin at pa pb
  rcases own_at i d h1 with ⟨rfl,_⟩ | ⟨rfl,_⟩<;>rcases own_at j e h2 with ⟨rfl,_⟩ | ⟨rfl,_⟩
  ·rfl
  ·rw [pa] at h3; rw [pb] at h4; cases h3; cases h4; exact absurd rfl nab
  ·rw [pb] at h3; rw [pa] at h4; cases h3; cases h4; exact absurd rfl nab
  ·rfl
 ·obtain ⟨o,e,n⟩:=hp x hx
  have h1:x ≠ a:=fun q=>by subst q; exact na hx
  have h2:x ≠ b:=fun q=>by subst q; exact nb hx
  exact ⟨o,by show offA (offA H a) b x=_; rw [offA_ne h2,offA_ne h1]; exact e,n⟩
structure CalQ (P:Program) (w:World) (K:PySem.W.Frag) (mg:Str->Option Value) (base:Heap) (x:Str) (ps:List Str) (k:Nat) (dn:List D->Kvs->Kvs->R (D × Kvs × Kvs)):Prop where
 ex:∃ (f:Addr) (fd:FuncData),mg x=some (.ref f)/\PySem.W.keepIn K (.ref f)=true/\Binds K fd ps []/\FnOk P w K mg base CX0 k f fd ps (spQ K ps.length dn)
section
variable {P:Program} {w:World} {K:PySem.W.Frag} {mg:Str->Option Value} {base:Heap} {x qual:Str} {st:Stmt} {f:Addr} {fd:FuncData} {N ps:List Str} {k i:Nat} {m:EX}
theorem fn_okQ (F:Fun K x qual st f fd) (S:FnScope N ps (defScope st)) (hi:i + 2=ps.length)
  (hb:∀ (cdv:Value) (A:Around) (outer:List Env) (s:Shared) (H:Hp) (E:XK),Room k (bx P w K mg base N qual (defScope st) f cdv A outer s H E).A->Gd (bx P w K mg base N qual (defScope st) f cdv A outer s H E)->∀ (G:Fc) (a b:Addr),(∀ c,¬ G.xc c)->SBQ (bx P w K mg base N qual (defScope st) f cdv A outer s H E) G i a b (defBody st) m) :
  FnOk P w K mg base CX0 (k + 1) f fd ps (spQ K ps.length (denQ N.length m)) :=
 F.ok S (fun vs H Q E h=>h.1) (by
  rintro cdv A outer s H vs Q E hr ⟨hl,pr,ds,us,a,b,c,c',rfl,dl,na,nb,nab,hp,rs,ow,ow',f⟩
  have gd:Gd (bx P w K mg base N qual (defScope st) _ cdv A outer s H E):=⟨rfl,PassesOwn.never,S.nd,by have:=hr.units; exact Nat.lt_of_le_of_lt (Nat.add_le_add_left (by decide) _) this⟩
  obtain ⟨r,pin⟩:=rel_startQ (xc:=fun _=>False) (N:=N) na nb nab hp rs ow ow'
  have hid:ds.length=i:=by omega
  rw [hid] at pin
  refine ⟨_,hb cdv A outer s H E hr gd ⟨off2 H a b,pr,fun _=>False⟩ a b (fun _ h=>h),pin,startQ N.length ds c c',r,?_⟩
  refine (Fin.bind f).mono fun o p=>?_
  cases o with
  | rt d =>
   rintro x c1 c2 v H' rfl s' z1 z2 z3
   exact p v H' s' z1 z2 z3
  | nx E'=>exact p.elim
  | bk E'=>exact p.elim
  | ct E'=>exact p.elim)
theorem calq_no (Dn:Dfn K mg x st f fd) (hb:Binds K fd ps []):CalQ P w K mg base x ps k fun _ _ _=>.no :=
 ⟨f,fd,Dn.mg,Dn.fn.kp,hb,⟨fun vs H Q E h=>h.1,fun A outer s H args us vs Q E hr e0 b r h=>by
  obtain ⟨_,_,_,_,_,_,_,_,_,_,_,_,_,_,_,_,_,fn⟩:=h
  exact False.elim fn⟩⟩
end
noncomputable def aOwn2 (j j':Nat):Ev->R (List D):=fun E=>match E[j]?,E[j']? with
 | some (.ow (.dic _)),some (.ow (.dic _))=>.ok []
 | _,_=>.no
noncomputable def SAQ (X:Cx) (G:Fc) (es:List Expr) (j j':Nat) (m:Ev->R (List D)):Prop :=
 PA X es fun σ H Q=>∃ E,Rel X.K G E σ H/\Fin (m E) (fun ds=>∀ vs a b H',Same H H'->Rps X.K H' (Ow G.pr E σ) ds vs->Pin j a σ->Pin j' b σ->Q (vs++[.ref a,.ref b]) H') G.xc
noncomputable def callQ (j j' n:Nat) (dn:List D->Kvs->Kvs->R (D × Kvs × Kvs)) (ma:Ev->R (List D)):Ev->R (Bool × Ev):=fun E=>match E[j]?,E[j']? with
 | some (.ow (.dic c)),some (.ow (.dic c'))=>ma E >>= fun ds=>if ds.length + 2=n then dn ds c c' >>= fun p=>(match p.1 with
  | .bl k=>.ok (k,(E.set j (.ow (.dic p.2.1))).set j' (.ow (.dic p.2.2)))
  | _=>.no) else .no
 | _,_=>.no
section
variable {X:Cx} {G:Fc} {e:Expr} {es:List Expr} {me:EV} {ma:Ev->R (List D)} {j j':Nat}
theorem saq_last (j j':Nat) {x y:Str} {p p':Pos} (hN:X.N[j]?=some x:=by rfl) (hN':X.N[j']?=some y:=by rfl) (hv:Vis X.env.scope x:=by first | exact Or.inl rfl | exact Or.inr (Or.inl rfl) | exact Or.inr (Or.inr rfl)) (hv':Vis X.env.scope y:=by first | exact Or.inl rfl | exact Or.inr (Or.inl rfl) | exact Or.inr (Or.inr rfl)) (hd:(x == ("__debug__":Str))=false:=by decide) (hcd:(x == ("__classdict__":Str))=false:=by decide) (hd':(y == ("__debug__":Str))=false:=by decide) (hcd':(y == ("__classdict__":Str))=false:=by decide)
  (hs:starEach [.Name x p,.Name y p'] X.env=(false,eval (.Name x p) X.env) :: starEach [.Name y p'] X.env:=by rfl) (hs':starEach [.Name y p'] X.env=(false,eval (.Name y p') X.env) :: starEach [] X.env:=by rfl):SAQ X G [.Name x p,.Name y p'] j j' (aOwn2 j j') :=
 (pa_cons (pe_var hN hv hd hcd) (pa_cons (pe_var hN' hv' hd' hcd') pa_nil hs') hs).imp fun σ H Q h=>by
  obtain ⟨E,hr,f⟩:=h
  unfold aOwn2 at f
  split at f
  ·rename_i c c' hj hj'
   obtain ⟨a,e1,e2,e3⟩:=hr.ow j _ hj
   obtain ⟨b,e1',e2',e3'⟩:=hr.ow j' _ hj'
   exact ⟨.ref a,e1,.ref b,e1',f [] a b H (Same.refl _) Rps.nil e1 e1'⟩
  ·exact f.elim
theorem saq_cons (he:SF X G e me) (hes:SAQ X G es j j' ma) (hs:starEach (e :: es) X.env=(false,eval e X.env) :: starEach es X.env:=by rfl):SAQ X G (e :: es) j j' (aCons me ma) :=
 (pa_cons he hes hs).imp fun σ H Q h=>by
  obtain ⟨E,hr,f⟩:=h
  refine ⟨E,hr,(Fin.bind f).mono fun d p v H1 s1 z=>⟨E,hr.same s1,(Fin.bind p).mono fun ds p vs a b H2 s2 rs pn pn'=>p (v :: vs) a b H2 (s1.trans s2) (Rps.cons (z.mono s2 fun _ z=>z) rs) pn pn'⟩⟩
theorem Rel.changed2 {K:PySem.W.Frag} {E:Ev} {σ:St} {H H':Hp} {a b:Addr} {c c' d d':Kvs} (r:Rel K G E σ H) (hj:E[j]?=some (.ow (.dic c))) (hj':E[j']?=some (.ow (.dic c'))) (pn:Pin j a σ) (pn':Pin j' b σ) (nab:a ≠ b) (s:Same (off2 H a b) H') (ow:Own K H' (Ow G.pr E σ) (.dic d) a) (ow':Own K H' (Ow G.pr E σ) (.dic d') b) :
  Rel K G ((E.set j (.ow (.dic d))).set j' (.ow (.dic d'))) σ H':=by
 classical
 obtain ⟨oa,_,wa⟩:=pin_own r hj pn
 obtain ⟨ob,_,wb⟩:=pin_own r hj' pn'
 have njj:j ≠ j':=fun z=>by
  subst z
  unfold Pin at pn pn'
  rw [pn] at pn'; cases pn'; exact nab rfl
 let H1:Hp:=fun x=>if x=b then H b else H' x
 have hb1:H1 b=H b:=if_pos rfl
 have hn1:∀ x,x ≠ b->H1 x=H' x:=fun x h=>if_neg h
 have s1:Same (offA H a) H1:=fun x o h=>by
  by_cases e:x=b
  ·subst e; rw [offA_ne (Ne.symm nab)] at h; rw [hb1]; exact h
  ·rw [hn1 x e]; exact s x o (by show offA (offA H a) b x=_; rw [offA_ne e]; exact h)
 have mv:∀ x o,¬ Ow G.pr E σ x->H' x=some o->H1 x=some o/\¬ Ow G.pr E σ x:=fun x o nx h=>by
  refine ⟨?_,nx⟩
  rw [hn1 x fun z=>by subst z; exact nx wb]; exact h
 have ow1:Own K H1 (Ow G.pr E σ) (.dic d) a:=by
  obtain ⟨ws,w1,w2⟩:=ow
  exact ⟨ws,by rw [hn1 a nab]; exact w1,w2.move mv⟩
 have r1:=r.changed hj pn s1 ow1
 have osub:∀ x,Ow G.pr (E.set j (.ow (.dic d))) σ x->Ow G.pr E σ x:=fun x h=>by
  rcases h with h | ⟨i,d,h1,h2⟩
  ·exact .inl h
  ·rcases get_set h1 with ⟨rfl,_⟩ | ⟨_,h1⟩
   ·exact .inr ⟨i,_,hj,h2⟩
   ·exact .inr ⟨i,d,h1,h2⟩
 refine r1.changed (c:=c') (by rw [List.getElem?_set_ne njj]; exact hj') pn' (fun x o h=>?_) (ow'.mono (Same.refl _) osub)
 by_cases e:x=b
 ·subst e; rw [offA_eq] at h; cases h
 ·rw [offA_ne e,hn1 x e] at h; exact h
theorem stc_call {k kk:Nat} {ps:List Str} {dn:List D->Kvs->Kvs->R (D × Kvs × Kvs)} {x:Str} {p pos:Pos} (C:CalQ X.prog X.w X.K X.mg X.base x ps k dn) (hx:∀ c,¬ G.xc c) (hr:Room kk X.A) (hk:k<=kk) (hg:Gl X x) (ha:SAQ X G (e :: es) j j' ma) (njj:j ≠ j':=by decide)
  (hdb:(x == ("__debug__":Str))=false:=by decide) (he:starEach (e :: es) X.env=(false,eval e X.env) :: starEach es X.env:=by rfl) (hpl:(backTo pos (starEach es X.env)).any (·.1)=false:=by rfl)
  (ht:∀ whole,isTrue (.Call (.Name x p) (e :: es) [] pos) X.env whole=(do let v ← whole; standAt (Expr.Call (.Name x p) (e :: es) [] pos).pos; holding [v] (truthy v)):=by intro _; rfl) :
  STc X G (.Call (.Name x p) (e :: es) [] pos) (callQ j j' ps.length dn ma):=by
 obtain ⟨f,fd,hm,hk',hb,F⟩:=C.ex
 refine (pt_val (pe_call F (hr.mono hk) hg hm hk' hb .nil pass0 ha hdb he hpl) ht).imp fun σ H Q h=>?_
 obtain ⟨E,hr,f⟩:=h
 unfold callQ at f
 split at f
 ·rename_i c c' hj hj'
  refine ⟨E,hr,(Fin.bind f).mono fun ds f vs a b H1 s1 rs pn pn'=>?_⟩
  split at f
  ·rename_i hl
   have hr1:=hr.same s1
   obtain ⟨oa,_,wa⟩:=pin_own hr1 hj pn
   obtain ⟨ob,_,wb⟩:=pin_own hr1 hj' pn'
   have nab:a ≠ b:=fun z=>by
    subst z
    exact njj (hr1.ne j j' _ _ a hj hj' pn pn')
   have sub:∀ x,or2 (fun x=>Ow G.pr E σ x/\x ≠ a/\x ≠ b) a b x->Ow G.pr E σ x:=fun x hx=>by
    rcases hx with (hx | hx) | hx
    ·exact hx.1
    ·rw [hx]; exact wa
    ·rw [hx]; exact wb
   have bus:∀ x,Ow G.pr E σ x->or2 (fun x=>Ow G.pr E σ x/\x ≠ a/\x ≠ b) a b x:=fun x hx=>by
    by_cases q:x=a
    ·exact .inl (.inr q)
    ·by_cases q':x=b
     ·exact .inr q'
     ·exact .inl (.inl ⟨hx,q,q'⟩)
   refine ⟨by rw [List.append_nil,List.length_append,rs.length]; exact hl,fun x=>Ow G.pr E σ x/\x ≠ a/\x ≠ b,ds,vs,a,b,c,c',by rw [List.append_nil],hl,fun z=>z.2.1 rfl,fun z=>z.2.2 rfl,nab,fun x z=>hr1.owned z.1,rs.mono (Same.refl _) sub,oa.mono (Same.refl _) sub,ob.mono (Same.refl _) sub,?_⟩
   cases q:dn ds c c' with
   | er k=>rw [q] at f; exact hx k f
   | no=>rw [q] at f; exact f
   | ok pc =>
    rw [q] at f
    simp only [R.ok_bind] at f
    intro v H' s2 z1 z2 z3
    have hr2:=hr1.changed2 hj hj' pn pn' nab s2 (z2.mono (Same.refl _) bus) (z3.mono (Same.refl _) bus)
    obtain ⟨x1,x2,x3⟩:=pc
    cases x1 with
    | bl k =>
     unfold Rp at z1
     exact ⟨k,z1,f H' hr2⟩
    | _=>exact f.elim
  ·exact f.elim
 ·exact f.elim
end
end M

set_option Elab.async false
set_option linter.all false
set_option maxRecDepth 100000
namespace M
open PySem PySem.Spec PyProof.Rows L2
section
variable {prog:Program} {w:World} {A:Around} {s:Shared} {I S:Addr} {fp wr:List Addr} {P:Nat->Value->Prop} {St:Nat->Heap->Prop} {R:Result->Shared->Prop}
theorem min_last {v:Value} {c:Nat} (W:Walks prog w A.in1 I fp wr 2 P St) (hw:S ∉ wr) (hst:St 2 s.heap) (hS:s.heap.get? S=some { cls:=.type "list",dict:=none,data:=.seq #[v,v] c,slots:=#[] })
  (hR:∀ h' tk,(∀ b o,b ∉ wr->b ≠ S->s.heap.get? b=some o->h'.get? b=some o)->R (.ok (.ret v)) { s with heap:=h',toks:=tk }):codeAny (model prog w) A (.builtin "min.loop" ⟨[.ref I,.none,.ref S],[]⟩) R s:=by
 refine codeAny_builtin F.entry_min_loop ?_
 rw [Around.under_plainId F.plain_min_loop _]
 show wpAny _ A.in1 (seqItems? (.ref S) >>= _) _ _ s
 refine wpAny_bind (wpAny_seqItems hS rfl ?_)
 show wpAny _ A.in1 (tryCatch (pyNext (.ref I)) _ >>= _) _ _ s
 refine wpAny_bind (wpAny_tryCatch (W.done s _ _ hst fun h' tk hk'=>?_))
 have hS':=hk' S _ hw hS
 show wpAny _ A.in1 (updateSeq S (fun _=>#[]) >>= _) _ _ _
 refine wpAny_bind ?_
 refine wpAny_updateSeq hS' rfl (wpAny_bind (wpAny_letGo (wpAny_pure ?_)))
 exact hR _ tk fun b o hbw hbS e=>(Heap.get?_update_other _ _ (Ne.symm hbS)).trans (hk' b o hbw e)
theorem min_second {a b:Value} {k:Bool} {c:Nat} (W:Walks prog w A.in1 I fp wr 2 P St) (hf:S ∉ fp) (hst:St 1 s.heap) (hP:∀ v,P 1 v->v=b) (hS:s.heap.get? S=some { cls:=.type "list",dict:=none,data:=.seq #[a,a] c,slots:=#[] })
  (hcmp:∀ (s':Shared) (Q:Value->Shared->Prop) (E:Value->Shared->Prop),(∀ c o,c ∉ wr->c ≠ S->s.heap.get? c=some o->s'.heap.get? c=some o)->Q (.bool k) s'->wpAny (model prog w) A.in1 (richCompare .Lt b a) Q E s')
  (hR:∀ h' tk,(∀ b o,b ∉ wr->b ≠ S->s.heap.get? b=some o->h'.get? b=some o)->R (.ok (.ret (if k=true then b else a))) { s with heap:=h',toks:=tk }):codeAny (model prog w) A (.builtin "min.loop" ⟨[.ref I,.none,.ref S],[]⟩) R s:=by
 have hw:S ∉ wr:=fun h=>hf (W.sub _ h)
 have hname:(toString "min"++toString ".loop":String)="min.loop":=by decide
 refine codeAny_builtin F.entry_min_loop ?_
 rw [Around.under_plainId F.plain_min_loop _]
 show wpAny _ A.in1 (seqItems? (.ref S) >>= _) _ _ s
 refine wpAny_bind (wpAny_seqItems hS rfl ?_)
 show wpAny _ A.in1 (tryCatch (pyNext (.ref I)) _ >>= _) _ _ s
 refine wpAny_bind (wpAny_tryCatch (W.item 1 s _ _ (by decide) hst fun v h' tk hv hst' hk'=>?_))
 cases hP v hv
 have hS':=hk' S _ hw hS
 show wpAny _ A.in1 (tryCatch (holding [b,b] (richCompare .Lt b a >>= _)) _ >>= _) _ _ _
 refine wpAny_bind (wpAny_tryCatch (wpAny_holding (wpAny_bind (hcmp _ _ _ (fun c o h1 _ e=>hk' c o h1 e) ?_))))
 refine wpAny_bind (wpAny_holding (wpAny_truthy_bool ?_))
 refine wpAny_bind (wpAny_letGo (wpAny_pure ?_))
 cases k with
 | true =>
  simp only [if_true]
  refine wpAny_bind ?_
  refine wpAny_updateSeq hS' rfl (wpAny_bind (wpAny_letGo ?_))
  rw [hname]
  refine wpAny_pure ⟨plainId_quiet F.plain_min_loop _,min_last W hw (W.frame _ _ _ hst' fun c hc o e=>?_) (Heap.get?_update_self _ hS' rfl) fun h'' tk'' hk''=>?_⟩
  ·exact (Heap.get?_update_other _ _ (fun h:S=c=>hf (by rw [h]; exact hc))).trans e
  ·exact hR h'' tk'' fun c o h1 h2 e=>hk'' c o h1 h2 ((Heap.get?_update_other _ _ (Ne.symm h2)).trans (hk' c o h1 e))
 | false =>
  simp only [Bool.false_eq_true,if_false]
  refine wpAny_bind (wpAny_letGo ?_)
  rw [hname]
  refine wpAny_pure ⟨plainId_quiet F.plain_min_loop _,min_last W hw hst' hS' fun h'' tk'' hk''=>?_⟩
  exact hR h'' tk'' fun c o h1 h2 e=>hk'' c o h1 h2 (hk' c o h1 e)
theorem min_first {a b:Value} {k:Bool} {c:Nat} (W:Walks prog w A.in1 I fp wr 2 P St) (hf:S ∉ fp) (hst:St 0 s.heap) (hP0:∀ v,P 0 v->v=a) (hP:∀ v,P 1 v->v=b) (hS:s.heap.get? S=some { cls:=.type "list",dict:=none,data:=.seq #[] c,slots:=#[] })
  (hcmp:∀ (s':Shared) (Q:Value->Shared->Prop) (E:Value->Shared->Prop),(∀ c o,c ∉ wr->c ≠ S->s.heap.get? c=some o->s'.heap.get? c=some o)->Q (.bool k) s'->wpAny (model prog w) A.in1 (richCompare .Lt b a) Q E s')
  (hR:∀ h' tk,(∀ b o,b ∉ wr->b ≠ S->s.heap.get? b=some o->h'.get? b=some o)->R (.ok (.ret (if k=true then b else a))) { s with heap:=h',toks:=tk }):codeAny (model prog w) A (.builtin "min.loop" ⟨[.ref I,.none,.ref S],[]⟩) R s:=by
 have hw:S ∉ wr:=fun h=>hf (W.sub _ h)
 have hname:(toString "min"++toString ".loop":String)="min.loop":=by decide
 refine codeAny_builtin F.entry_min_loop ?_
 rw [Around.under_plainId F.plain_min_loop _]
 show wpAny _ A.in1 (seqItems? (.ref S) >>= _) _ _ s
 refine wpAny_bind (wpAny_seqItems hS rfl ?_)
 show wpAny _ A.in1 (tryCatch (pyNext (.ref I)) _ >>= _) _ _ s
 refine wpAny_bind (wpAny_tryCatch (W.item 0 s _ _ (by decide) hst fun v h' tk hv hst' hk'=>?_))
 cases hP0 v hv
 have hS':=hk' S _ hw hS
 show wpAny _ A.in1 (updateSeq S (fun _=>#[a,a]) >>= _) _ _ _
 refine wpAny_bind ?_
 refine wpAny_updateSeq hS' rfl ?_
 rw [hname]
 have old:∀ c o,c ∉ wr->c ≠ S->s.heap.get? c=some o->(h'.update S (Obj.mapSeq fun _=>#[a,a])).get? c=some o:=fun c o h1 h2 e=>(Heap.get?_update_other _ _ (Ne.symm h2)).trans (hk' c o h1 e)
 refine wpAny_pure ⟨plainId_quiet F.plain_min_loop _,min_second (k:=k) W hf (W.frame _ _ _ hst' fun c hc o e=>?_) hP (Heap.get?_update_self _ hS' rfl) (fun s' Q E kp=>hcmp s' Q E fun c o h1 h2 e=>kp c o h1 h2 (old c o h1 h2 e)) fun h'' tk'' hk''=>?_⟩
 ·exact (Heap.get?_update_other _ _ (fun h:S=c=>hf (by rw [h]; exact hc))).trans e
 ·exact hR h'' tk'' fun c o h1 h2 e=>hk'' c o h1 h2 (old c o h1 h2 e)
end
section
variable {prog:Program} {w:World} {A:Around} {E:Value->Shared->Prop} {s:Shared}
theorem min_two_at {a b:Value} {k:Bool} {Q:Value->Shared->Prop} (hh:A.handled=none)
  (hcmp:∀ (s':Shared) (Q:Value->Shared->Prop) (E:Value->Shared->Prop),(∀ c o,s.heap.get? c=some o->s'.heap.get? c=some o)->Q (.bool k) s'->wpAny (model prog w) A.in1 (richCompare .Lt b a) Q E s')
  (h:∀ h' tk,(∀ c o,s.heap.get? c=some o->h'.get? c=some o)->Q (if k=true then b else a) { s with heap:=h',toks:=tk }):wpAny (model prog w) A (call (.builtin "min") [a,b]) Q E s:=by
 have hname:(toString "min"++toString ".loop":String)="min.loop":=by decide
 refine call_function_tree F.kind_min F.plain_min F.entry_min (F.args_min2 _ _) ?_
 show wpAny _ A.in1 (Builtin.Builtins.bindParams "min" ["key","default"] 0 ⟨[],[]⟩ >>= _) _ _ s
 refine wpAny_bind (wpAny_of_eq (show Builtin.Builtins.bindParams "min" ["key","default"] 0 ⟨[],[]⟩=pure [none,none] from rfl) ?_)
 show wpAny _ A.in1 (newTuple [a,b] >>= _) _ _ s
 refine wpAny_bind (wpAny_newObj_type ?_)
 have hT:(s.heap.push { cls:=.type "tuple",data:=.seq #[a,b] }).IsTuple s.heap.objs.size #[a,b]:=⟨_,Heap.get?_push_size _ rfl,rfl,0,rfl⟩
 refine wpAny_bind (wpAny_pyIter_tuple hT ?_)
 have z1:(s.heap.push { cls:=.type "tuple",data:=.seq #[a,b] }).objs.size=s.heap.objs.size + 1:=Heap.size_push ..
 have z2:((s.heap.push { cls:=.type "tuple",data:=.seq #[a,b] }).push { cls:=.type "tuple_iterator",data:=.fields #[.ref s.heap.objs.size,.int 0 0] }).objs.size=s.heap.objs.size + 2:=by rw [Heap.size_push,z1]
 refine wpAny_bind (wpAny_newObj_type ?_)
 rw [hname]
 have W:=Walks.tuple (prog:=prog) (w:=w) (A:=A.in1) hh (s.heap.objs.size + 1) s.heap.objs.size (Nat.ne_of_lt (Nat.lt_succ_self _)) #[a,b]
 have nI:∀ c o,s.heap.get? c=some o->c ≠ s.heap.objs.size + 1/\c ≠ s.heap.objs.size + 2:=fun c o e=>by
  have:=Heap.lt_size e
  exact ⟨fun z=>by rw [z] at this; exact absurd this (Nat.not_lt.mpr (Nat.le_succ _)),fun z=>by rw [z] at this; exact absurd this (Nat.not_lt.mpr (Nat.le_add_right _ _))⟩
 have up:∀ c o,s.heap.get? c=some o->(((s.heap.push { cls:=.type "tuple",data:=.seq #[a,b] }).push { cls:=.type "tuple_iterator",data:=.fields #[.ref s.heap.objs.size,.int 0 0] }).push { cls:=.type "list",data:=.seq #[] }).get? c=some o:=fun c o e=>Heap.get?_push_of_some _ (Heap.get?_push_of_some _ (Heap.get?_push_of_some _ e))
 have hit:((s.heap.push { cls:=.type "tuple",data:=.seq #[a,b] }).push { cls:=.type "tuple_iterator",data:=.fields #[.ref s.heap.objs.size,.int 0 0] }).get? (s.heap.objs.size + 1)=some { cls:=.type "tuple_iterator",data:=.fields #[.ref s.heap.objs.size,.int 0 0] }:=by
  rw [<-z1]; exact Heap.get?_push_size _ rfl
 have hls:(((s.heap.push { cls:=.type "tuple",data:=.seq #[a,b] }).push { cls:=.type "tuple_iterator",data:=.fields #[.ref s.heap.objs.size,.int 0 0] }).push { cls:=.type "list",data:=.seq #[] }).get? (s.heap.objs.size + 2)=some { cls:=.type "list",data:=.seq #[] }:=by
  rw [<-z2]; exact Heap.get?_push_size _ rfl
 refine wpAny_pure ⟨plainId_quiet F.plain_min_loop _,?_⟩
 rw [z1,z2]
 refine min_first (a:=a) (b:=b) (k:=k) W (fun hm=>?_) ⟨⟨_,Heap.get?_push_of_some _ hit,rfl,rfl⟩,(hT.push _).push _⟩ (fun v hv=>?_) (fun v hv=>?_) hls (fun s' Q E kp=>hcmp s' Q E fun c o e=>kp c o ?_ (nI c o e).2 (up c o e)) fun h' tk kp=>h h' tk fun c o e=>kp c o ?_ (nI c o e).2 (up c o e)
 ·rcases List.mem_cons.mp hm with e1 | hm
  ·exact absurd (Nat.add_left_cancel e1) (by decide)
  ·exact absurd (List.mem_singleton.mp hm) (Nat.ne_of_gt (Nat.lt_add_of_pos_right (by decide)))
 ·simpa using hv.symm
 ·simpa using hv.symm
 ·exact fun hm=>(nI c o e).1 (List.mem_singleton.mp hm)
 ·exact fun hm=>(nI c o e).1 (List.mem_singleton.mp hm)
end
section
variable {X:Cx} {G:Fc}
noncomputable def rMinT (K:PySem.W.Frag):List V->Hp->VK->Prop:=fun xs H Q=>∃ a b ns ms,xs=[.ref a,.ref b]/\SqT K H a (ns.map V.int)/\SqT K H b (ms.map V.int)/\Q (.ref (if HT.lexLt ms ns=true then b else a)) H
theorem call_minT (gd:Gd X):CallR X (.builtin "min") (rMinT X.K):=by
 intro pins s σ H xs us Q I r h
 obtain ⟨a,b,ns,ms,rfl,ha,hb,q⟩:=h
 obtain ⟨u,v,rfl,ru,rv⟩:=vals2 r
 cases ru
 cases rv
 obtain ⟨i1,v1,t1,_⟩:=I.tuple ha
 obtain ⟨i2,v2,t2,_⟩:=I.tuple hb
 refine min_two_at (k:=HT.lexLt ms ns) (I.ok.hd gd.calm) (fun s' Q E kp hq=>?_) fun h' tk kp=>⟨_,H,I.kept kp,?_,q⟩
 ·have up:∀ {c:Addr} {its:Array Value},IsTup s.heap c its->IsTup s'.heap c its:=fun ⟨o,e,z⟩=>⟨o,kp _ _ e,z⟩
  exact HT.lt_tupInts (up t2) (up t1) (intsAre_of v2) (intsAre_of v1) (by have:=gd.un; show X.A.units + 1 < cLine; omega) hq
 ·by_cases hc:HT.lexLt ms ns=true
  ·rw [if_pos hc,if_pos hc]; rfl
  ·rw [if_neg hc,if_neg hc]; rfl
noncomputable def fMinT:D->D->Option D
 | .tup a,.tup b=>do let x ← dInts a; let y ← dInts b; pure (if HT.lexLt y x=true then .tup b else .tup a)
 | _,_=>none
theorem sf_minT {a b:Expr} {ma mb:EV} {p pos:Pos} (gd:Gd X) (hg:Gl X "min") (hm:X.mg "min"=none) (ha:SE X G a ma) (hb:SE X G b mb)
  (hs:starEach [a,b] X.env=(false,eval a X.env) :: starEach [b] X.env:=by rfl) (hs2:starEach [b] X.env=(false,eval b X.env) :: starEach [] X.env:=by rfl) (hpl:(backTo pos (starEach [b] X.env)).any (·.1)=false:=by rfl):SF X G (.Call (.Name "min" p) [a,b] [] pos) (e2 fMinT ma mb) :=
 sf_callB2 (call_minT gd) (fun H O dx dy d v w Q fr e rx ry q=>by
  cases dx with
  | tup a =>
   cases dy<;>simp [fMinT,Option.bind_eq_some_iff] at e
   obtain ⟨ns,e1,ms,e2,e⟩:=e
   obtain ⟨l,xs,rfl,h1,r1⟩:=rx.tup
   obtain ⟨l',ys,rfl,h2,r2⟩:=ry.tup
   have p1:=r1
   have p2:=r2
   rw [ints_some e1] at p1
   rw [ints_some e2] at p2
   refine ⟨l,l',ns,ms,rfl,SqT.of (by rw [<-p1.ints]; exact h1),SqT.of (by rw [<-p2.ints]; exact h2),q _ H (Same.refl _) ?_⟩
   rw [<-e]
   by_cases hc:HT.lexLt ms ns=true
   ·rw [if_pos hc,if_pos hc]; unfold Rp; exact ⟨l',ys,rfl,fr.tup h2,h2,r2⟩
   ·rw [if_neg hc,if_neg hc]; unfold Rp; exact ⟨l,xs,rfl,fr.tup h1,h1,r1⟩
  | _=>cases e) hg hm (by decide +kernel) ha hb (hs:=hs) (hs2:=hs2) (hpl:=hpl)
end
end M

set_option linter.all false
namespace Ma
noncomputable abbrev Sq:=Int × Int
noncomputable def Slt (a b:Sq):Prop:=a.1 < b.1\/(a.1=b.1/\a.2 < b.2)
theorem Slt.irr {a:Sq}:¬ Slt a a:=by unfold Slt; omega
theorem Slt.trans {a b c:Sq}:Slt a b->Slt b c->Slt a c:=by unfold Slt; omega
theorem Slt.tri {a b:Sq}:Slt a b\/a=b\/Slt b a:=by
 unfold Slt
 rcases a with ⟨a1,a2⟩; rcases b with ⟨b1,b2⟩
 simp only [Prod.mk.injEq]; omega
instance (a b:Sq):Decidable (Slt a b):=by unfold Slt; exact inferInstance
theorem nodup_of_sorted {l:List Sq} (h:l.Pairwise Slt):l.Nodup:=h.imp fun {a b} h e=>by subst e; exact Slt.irr h
theorem nodup_len {α:Type} [DecidableEq α]:∀ {l1 l2:List α},l1.Nodup->(∀ x ∈ l1,x ∈ l2)->l1.length<=l2.length
 | [],_,_,_=>by simp
 | a :: l1,l2,h,s=>by
  rw [List.nodup_cons] at h
  have ha:=s a (by simp)
  have:=nodup_len (l2:=l2.erase a) h.2 fun x hx=>by
   have hne:x ≠ a:=fun e=>h.1 (by rw [<-e]; exact hx)
   exact (List.mem_erase_of_ne hne).2 (s x (List.mem_cons_of_mem _ hx))
  rw [List.length_erase_of_mem ha] at this
  have:=List.length_pos_of_mem ha
  simp; omega
noncomputable def OnB (s:Sq):Prop:=0<=s.1/\s.1 < 8/\0<=s.2/\s.2 < 8
instance (s:Sq):Decidable (OnB s):=by unfold OnB; exact inferInstance
structure IsFloor (F:List Sq):Prop where
 ord:F.Pairwise Slt
 on:∀ s ∈ F,OnB s
noncomputable def InR (q:Sq):Prop:=-1<=q.1/\q.1<=8/\-1<=q.2/\q.2<=8
instance (s:Sq):Decidable (InR s):=by unfold InR; exact inferInstance
noncomputable def Near (p q:Sq):Prop:=p.1 - 1<=q.1/\q.1<=p.1 + 1/\p.2 - 1<=q.2/\q.2<=p.2 + 1/\InR q
inductive Reach (F:List Sq):Sq->Prop
 | base:Reach F (-1,-1)
 | step {p q:Sq}:Reach F p->Near p q->q ∉ F->Reach F q
structure Closed (F L:List Sq):Prop where
 st:(-1,-1) ∈ L
 ok:∀ x ∈ L,Reach F x
 cl:∀ p ∈ L,∀ q,Near p q->q ∉ F->q ∈ L
end Ma

set_option Elab.async false
set_option linter.all false
namespace M
open PySem PySem.Spec PyProof.Rows L2 Ma
@[simp] theorem R_pure {α:Type} (a:α):(pure a:R α)=.ok a:=rfl
@[simp] theorem xSeq_e (m n:EX) (E:Ev):xSeq m n E=(m E >>= fun o=>match o with | .nx E'=>n E' | o=>.ok o):=rfl
@[simp] theorem xNil_e (E:Ev):xNil E=.ok (.nx E):=rfl
@[simp] theorem xRet_e (m:EV) (E:Ev):xRet m E=(m E >>= fun d=>.ok (.rt d)):=rfl
@[simp] theorem xRetN_e (E:Ev):xRetN E=.ok (.rt .non):=rfl
@[simp] theorem xSet_e (i:Nat) (m:EV) (E:Ev):xSet i m E=(m E >>= fun d=>.ok (.nx (E.set i (.fz d)))):=rfl
@[simp] theorem xOwn_e (i:Nat) (m:EV) (E:Ev):xOwn i m E=(m E >>= fun d=>.ok (.nx (E.set i (.ow d)))):=rfl
@[simp] theorem xDo_e (m:EV) (E:Ev):xDo m E=(m E >>= fun _=>.ok (.nx E)):=rfl
@[simp] theorem xIf_e (t:Ev->R Bool) (a b:EX) (E:Ev):xIf t a b E=(t E >>= fun k=>if k=true then a E else b E):=rfl
@[simp] theorem xFrz_e (i:Nat) (m:EX) (E:Ev):xFrz i m E=m (frz i E):=rfl
@[simp] theorem xApp_e (i:Nat) (m:EV) (E:Ev):xApp i m E=(match E[i]? with
 | some (.ow (.lst ds))=>m E >>= fun d=>if ds.length < 1000000 then .ok (.nx (E.set i (.ow (.lst (ds++[d]))))) else .no
 | _=>.no):=rfl
@[simp] theorem xExt_e (i:Nat) (m:EV) (E:Ev):xExt i m E=(match E[i]? with
 | some (.ow (.lst ds))=>m E >>= fun d=>match d with
  | .lst es=>if ds.length + es.length < 1000000 then .ok (.nx (E.set i (.ow (.lst (ds++es))))) else .no
  | _=>.no
 | _=>.no):=rfl
@[simp] theorem xPop_e (i j:Nat) (E:Ev):xPop i j E=(match E[i]? with
 | some (.ow (.lst ds))=>match ds[ds.length - 1]? with
  | some d=>.ok (.nx ((E.set i (.ow (.lst ds.dropLast))).set j (.fz d)))
  | none=>.no
 | _=>.no):=rfl
@[simp] theorem xDput_e (i:Nat) (mk mv:EV) (E:Ev):xDput i mk mv E=(match E[i]? with
 | some (.ow (.dic kvs))=>mv E >>= fun d=>mk E >>= fun k=>match keyOf k with
  | some ks=>if kvs.length < 1000000 then .ok (.nx (E.set i (.ow (.dic (dput kvs ks d))))) else .no
  | none=>.no
 | _=>.no):=rfl
@[simp] theorem xFor_e (mi:Ev->R (List D)) (set:D->Ev->Option Ev) (b:EX) (E:Ev):xFor mi set b E=(mi E >>= fun ds=>forL set b ds E):=rfl
@[simp] theorem vE_fz (i:Nat) (E:Ev) (d:D) (h:E[i]?=some (.fz d)):vE i E=.ok d:=by unfold vE; rw [h]
@[simp] theorem vE_ow (i:Nat) (E:Ev) (d:D) (h:E[i]?=some (.ow d)):vE i E=.ok d:=by unfold vE; rw [h]
@[simp] theorem vF_fz (i:Nat) (E:Ev) (d:D) (h:E[i]?=some (.fz d)):vF i E=.ok d:=by unfold vF; rw [h]
@[simp] theorem kE_e (d:D) (E:Ev):kE d E=.ok d:=rfl
@[simp] theorem e1_e (f:D->Option D) (a:EV) (E:Ev):e1 f a E=(a E >>= fun x=>ofO (f x)):=rfl
@[simp] theorem e2_e (f:D->D->Option D) (a b:EV) (E:Ev):e2 f a b E=(a E >>= fun x=>b E >>= fun y=>ofO (f x y)):=rfl
@[simp] theorem aNil_e (E:Ev):aNil E=.ok []:=rfl
@[simp] theorem aCons_e (a:EV) (r:Ev->R (List D)) (E:Ev):aCons a r E=(a E >>= fun x=>r E >>= fun xs=>.ok (x :: xs)):=rfl
noncomputable def unB:D->R Bool
 | .bl b=>.ok b
 | _=>.no
noncomputable def andB (x:D) (y:R D):R D:=match x with
 | .bl true=>y
 | .bl false=>.ok (.bl false)
 | _=>.no
noncomputable def orB (x:D) (y:R D):R D:=match x with
 | .bl true=>.ok (.bl true)
 | .bl false=>y
 | _=>.no
@[simp] theorem unB_b (b:Bool):unB (.bl b)=.ok b:=rfl
@[simp] theorem andB_t (y:R D):andB (.bl true) y=y:=rfl
@[simp] theorem andB_f (y:R D):andB (.bl false) y=.ok (.bl false):=rfl
@[simp] theorem orB_t (y:R D):orB (.bl true) y=.ok (.bl true):=rfl
@[simp] theorem orB_f (y:R D):orB (.bl false) y=y:=rfl
@[simp] theorem andB_bb (b c:Bool):andB (.bl b) (.ok (.bl c))=.ok (.bl (b && c)):=by cases b<;>rfl
@[simp] theorem orB_bb (b c:Bool):orB (.bl b) (.ok (.bl c))=.ok (.bl (b || c)):=by cases b<;>rfl
@[simp] theorem ite_andB (b c:Bool):(if b=true then R.ok c else R.ok false)=R.ok (b && c):=by cases b<;>rfl
@[simp] theorem ite_orB (b c:Bool):(if b=true then R.ok true else R.ok c)=R.ok (b || c):=by cases b<;>rfl
@[simp] theorem ite_andP (p:Prop) [Decidable p] (c:Bool):(if p then R.ok c else R.ok false)=R.ok (decide p && c):=by by_cases h:p<;>simp [h]
@[simp] theorem ite_orP (p:Prop) [Decidable p] (c:Bool):(if p then R.ok true else R.ok c)=R.ok (decide p || c):=by by_cases h:p<;>simp [h]
@[simp] theorem tstB_e (a:EV) (E:Ev):tstB a E=(a E >>= unB):=by
 unfold tstB; congr 1
@[simp] theorem tstV_e (a:EV) (E:Ev):tstV a E=(a E >>= fun d=>ofO (truD d)):=rfl
@[simp] theorem bAnd_e (t u:Ev->R Bool) (E:Ev):bAnd t u E=(t E >>= fun k=>if k=true then u E else .ok false):=rfl
@[simp] theorem bOr_e (t u:Ev->R Bool) (E:Ev):bOr t u E=(t E >>= fun k=>if k=true then .ok true else u E):=rfl
@[simp] theorem bNot_e (t:Ev->R Bool) (E:Ev):bNot t E=(t E >>= fun k=>.ok (!k)):=rfl
@[simp] theorem eAnd_e (t u:EV) (E:Ev):eAnd t u E=(t E >>= fun d=>andB d (u E)):=rfl
@[simp] theorem eOr_e (t u:EV) (E:Ev):eOr t u E=(t E >>= fun d=>orB d (u E)):=rfl
noncomputable def notB:D->R D
 | .bl k=>.ok (.bl (!k))
 | _=>.no
@[simp] theorem notB_b (b:Bool):notB (.bl b)=.ok (.bl (!b)):=rfl
@[simp] theorem eNot_e (t:EV) (E:Ev):eNot t E=(t E >>= notB):=by
 unfold eNot; congr 1
@[simp] theorem eIf_e (t:Ev->R Bool) (a b:EV) (E:Ev):eIf t a b E=(t E >>= fun k=>if k=true then a E else b E):=rfl
@[simp] theorem eTup_e (t:Ev->R (List D)) (E:Ev):eTup t E=(t E >>= fun ds=>if ds.length<=1000 then .ok (.tup ds) else .no):=rfl
@[simp] theorem eLst_e (t:Ev->R (List D)) (E:Ev):eLst t E=(t E >>= fun ds=>if ds.length<=1000 then .ok (.lst ds) else .no):=rfl
@[simp] theorem eSl_e (a:EV) (lo hi:Ev->R (Option Int)) (E:Ev):eSl a lo hi E=(a E >>= fun x=>lo E >>= fun l=>hi E >>= fun h=>ofO (fSl x l h)):=rfl
@[simp] theorem oPart_e (m:EV) (E:Ev):oPart m E=(m E >>= fun d=>match d with | .int i=>.ok (some i) | _=>.no):=rfl
@[simp] theorem oNone_e (E:Ev):oNone E=.ok none:=rfl
@[simp] theorem eCh_e (f g:D->D->Option D) (ma mb mc:EV) (E:Ev):eCh f g ma mb mc E=(ma E >>= fun x=>mb E >>= fun y=>ofO (f x y) >>= fun t=>match t with
 | .bl true=>mc E >>= fun z=>ofO (g y z)
 | .bl false=>.ok (.bl false)
 | _=>.no):=rfl
@[simp] theorem eD1_e (mk mv:EV) (E:Ev):eD1 mk mv E=(mk E >>= fun k=>mv E >>= fun v=>match keyOf k with
 | some ks=>if flatB v=true then .ok (.dic [(ks,v)]) else .no
 | none=>.no):=rfl
@[simp] theorem eCall_e (n:Nat) (dn:List D->R D) (ma:Ev->R (List D)) (E:Ev):eCall n dn ma E=(ma E >>= fun ds=>if ds.length=n then dn ds else .no):=rfl
@[simp] theorem eLoose_e (i:Nat) (m:EV) (E:Ev):eLoose i m E=(m (frz i E) >>= flat):=rfl
@[simp] theorem iD_e (m:EV) (E:Ev):iD m E=(m E >>= fun d=>match d with | .lst ds=>.ok ds | _=>.no):=rfl
@[simp] theorem iT_e (m:EV) (E:Ev):iT m E=(m E >>= fun d=>match d with | .tup ds=>.ok ds | _=>.no):=rfl
noncomputable def rng (a b:Int):List Int:=(List.range (b - a).toNat).map fun (k:Nat)=>a + (k:Int)
theorem mem_rng {a b x:Int}:x ∈ rng a b ↔ a<=x/\x < b:=by
 unfold rng
 simp only [List.mem_map,List.mem_range]
 constructor
 ·rintro ⟨k,hk,rfl⟩; omega
 ·rintro ⟨h1,h2⟩; exact ⟨(x - a).toNat,by omega,by omega⟩
theorem rng_length (a b:Int):(rng a b).length=(b - a).toNat:=by simp [rng]
theorem rng_pairwise (a b:Int):(rng a b).Pairwise (· < ·):=by
 unfold rng
 rw [List.pairwise_map]
 exact List.pairwise_lt_range.imp fun h=>by omega
@[simp] theorem iR1_e (m:EV) (E:Ev):iR1 m E=(m E >>= fun d=>match d with
 | .int n=>if n.natAbs < 1000000 then .ok ((rng 0 n).map D.int) else .no
 | _=>.no):=by
 unfold iR1 rng
 congr 1
 funext d
 cases d<;>simp
 rfl
@[simp] theorem iR2_e (m n:EV) (E:Ev):iR2 m n E=(m E >>= fun d=>n E >>= fun e=>match d,e with
 | .int a,.int b=>if a.natAbs < 1000000/\b.natAbs < 1000000 then .ok ((rng a b).map D.int) else .no
 | _,_=>.no):=by
 unfold iR2 rng
 congr 1
 funext d
 congr 1
 funext e
 cases d<;>cases e<;>simp
 rfl
@[simp] theorem iZ_e (ma mb:EV) (E:Ev):iZ ma mb E=(ma E >>= fun x=>mb E >>= fun y=>match x,y with
 | .lst xs,.lst ys=>.ok (List.zipWith (fun a b=>D.tup [a,b]) xs ys)
 | _,_=>.no):=rfl
@[simp] theorem gN_e (i:Nat) (d:D) (E:Ev):gN i d E=some (E.set i (.fz d)):=rfl
@[simp] theorem gT_e (i j:Nat) (a b:D) (E:Ev):gT i j (.tup [a,b]) E=some ((E.set i (.fz a)).set j (.fz b)):=rfl
@[simp] theorem tTrue_e (E:Ev):tTrue E=.ok true:=rfl
@[simp] theorem den_e (n:Nat) (m:EX) (ds:List D):den n m ds=ended (m (ds.map Sl.fz++List.replicate (n - ds.length) .un)):=rfl
@[simp] theorem ended_rt (d:D):ended (.ok (.rt d))=.ok d:=rfl
@[simp] theorem ended_nx (E:Ev):ended (.ok (.nx E))=.ok .non:=rfl
@[simp] theorem flat_bl (b:Bool):flat (.bl b)=.ok (.bl b):=rfl
@[simp] theorem flat_int (b:Int):flat (.int b)=.ok (.int b):=rfl
@[simp] theorem flat_non:flat .non=.ok .non:=rfl
theorem frz_e (i:Nat) (E:Ev):frz i E=(match E[i]? with | some (.ow d)=>E.set i (.fz d) | _=>E):=by
 unfold frz; rfl
@[simp] theorem fAdd_i (a b:Int):fAdd (.int a) (.int b)=some (.int (a + b)):=rfl
@[simp] theorem fSub_i (a b:Int):fSub (.int a) (.int b)=some (.int (a - b)):=rfl
@[simp] theorem fNeg_i (a:Int):fNeg (.int a)=some (.int (-a)):=rfl
@[simp] theorem fMul_i (a b:Int):fMul (.int a) (.int b)=if a.natAbs < 2 ^ 63\/b.natAbs < 2 ^ 63 then some (.int (a * b)) else none:=rfl
@[simp] theorem fDiv_i (a b:Int):fDiv (.int a) (.int b)=if 0 < b/\b < 1073741824 then some (.int (a / b)) else none:=rfl
@[simp] theorem fMod_i (a b:Int):fMod (.int a) (.int b)=if 0 < b then some (.int (a % b)) else none:=rfl
@[simp] theorem fLt_i (a b:Int):fLt (.int a) (.int b)=some (.bl (decide (a < b))):=rfl
@[simp] theorem fLtI_i (a b:Int):fLtI (.int a) (.int b)=some (.bl (decide (a < b))):=rfl
@[simp] theorem fLe_i (a b:Int):fLe (.int a) (.int b)=some (.bl (decide (a<=b))):=rfl
@[simp] theorem fGt_i (a b:Int):fGt (.int a) (.int b)=some (.bl (decide (b < a))):=rfl
@[simp] theorem fGe_i (a b:Int):fGe (.int a) (.int b)=some (.bl (decide (b<=a))):=rfl
@[simp] theorem fMax_i (a b:Int):fMax (.int a) (.int b)=some (.int (if b > a then b else a)):=rfl
@[simp] theorem fMin_i (a b:Int):fMin (.int a) (.int b)=some (.int (if b < a then b else a)):=rfl
theorem beq_dec {α:Type} [DecidableEq α] (a b:α):(a == b)=decide (a=b):=by by_cases h:a=b<;>simp [h]
@[simp] theorem fEq_i (a b:Int):fEq (.int a) (.int b)=some (.bl (decide (a=b))):=by rw [<-beq_dec]; rfl
@[simp] theorem fNe_i (a b:Int):fNe (.int a) (.int b)=some (.bl (!(decide (a=b)))):=by rw [<-beq_dec]; rfl
@[simp] theorem fEq_b (a b:Bool):fEq (.bl a) (.bl b)=some (.bl (a == b)):=rfl
@[simp] theorem fNe_b (a b:Bool):fNe (.bl a) (.bl b)=some (.bl (!(a == b))):=rfl
@[simp] theorem fLen_l (ds:List D):fLen (.lst ds)=some (.int ds.length):=rfl
@[simp] theorem fLen_t (ds:List D):fLen (.tup ds)=some (.int ds.length):=rfl
@[simp] theorem fLen_d (ds:List (List Int × D)):fLen (.dic ds)=some (.int ds.length):=rfl
@[simp] theorem fLen_s (ds:List Int):fLen (.scr ds)=some (.int ds.length):=rfl
@[simp] theorem fList_l (ds:List D):fList (.lst ds)=some (.lst ds):=rfl
@[simp] theorem truD_b (b:Bool):truD (.bl b)=some b:=rfl
@[simp] theorem truD_l (ds:List D):truD (.lst ds)=some (!ds.isEmpty):=rfl
noncomputable abbrev dS (s:Sq):D:=.tup [.int s.1,.int s.2]
noncomputable abbrev dL (L:List Sq):D:=.lst (L.map dS)
noncomputable abbrev dD (L:List Sq):D:=.dic (L.map fun s=>([s.1,s.2],.bl true))
theorem atI_pos {α:Type} {xs:List α} {i:Int} (h0:0<=i) (h1:i < xs.length):atI xs i=xs[i.toNat]?:=by
 unfold atI ixN
 rw [if_pos h0,if_pos h1]; rfl
theorem atI_nat {α:Type} {xs:List α} {i:Nat} {x:α} (h:xs[i]?=some x):atI xs (i:Int)=some x:=by
 have h1:i < xs.length:=(List.getElem?_eq_some_iff.mp h).1
 rw [atI_pos (by omega) (by omega)]
 simpa using h
@[simp] theorem fIx_0 (a:D) (r:List D):fIx (.tup (a :: r)) (.int 0)=some a:=atI_nat (i:=0) rfl
@[simp] theorem fIx_1 (a b:D) (r:List D):fIx (.tup (a :: b :: r)) (.int 1)=some b:=atI_nat (i:=1) rfl
@[simp] theorem fIx_2 (a b c:D) (r:List D):fIx (.tup (a :: b :: c :: r)) (.int 2)=some c:=atI_nat (i:=2) rfl
@[simp] theorem atI_0 {α:Type} (a:α) (r:List α):atI (a :: r) 0=some a:=atI_nat (i:=0) rfl
@[simp] theorem atI_1 {α:Type} (a b:α) (r:List α):atI (a :: b :: r) 1=some b:=atI_nat (i:=1) rfl
@[simp] theorem atI_2 {α:Type} (a b c:α) (r:List α):atI (a :: b :: c :: r) 2=some c:=atI_nat (i:=2) rfl
@[simp] theorem fIx_l (ds:List D) (i:Int):fIx (.lst ds) (.int i)=atI ds i:=rfl
noncomputable def Goes (r:R Out) (P:Ev->Prop):Prop:=match r with
 | .ok (.nx E)=>P E
 | .ok (.ct E)=>P E
 | _=>False
@[simp] theorem Goes_nx (E:Ev) (P:Ev->Prop):Goes (.ok (.nx E)) P=P E:=rfl
@[simp] theorem Goes_ct (E:Ev) (P:Ev->Prop):Goes (.ok (.ct E)) P=P E:=rfl
theorem goes_of {r:R Out} {E:Ev} {P:Ev->Prop} (h:r=.ok (.nx E)) (hp:P E):Goes r P:=by rw [h]; exact hp
section
variable {set:D->Ev->Option Ev} {b:EX} {c:Ev->R Bool}
theorem forL_cons {d:D} {ds:List D} {E E1:Ev} {P:Ev->Prop} (h1:set d E=some E1) (h2:Goes (b E1) P):∃ E2,P E2/\forL set b (d :: ds) E=forL set b ds E2:=by
 conv=>rhs; intro E2; rhs; lhs; unfold forL
 rw [h1]
 unfold Goes at h2
 split at h2
 ·rename_i E2 e; exact ⟨E2,h2,by dsimp only; rw [e]; rfl⟩
 ·rename_i E2 e; exact ⟨E2,h2,by dsimp only; rw [e]; rfl⟩
 ·exact h2.elim
theorem forL_fold {α S:Type} (f:α->D) (st:S->α->S) (I:S->Ev->Prop):∀ (xs:List α) (s:S) (E:Ev),(∀ s E,I s E->∀ x ∈ xs,∃ E1,set (f x) E=some E1/\Goes (b E1) (I (st s x)))->I s E →
  ∃ E',forL set b (xs.map f) E=.ok (.nx E')/\I (xs.foldl st s) E'
 | [],s,E,_,h0=>⟨E,rfl,h0⟩
 | x :: r,s,E,h,h0=>by
  obtain ⟨E1,e1,e2⟩:=h s E h0 x (by simp)
  obtain ⟨E2,i2,e3⟩:=forL_cons (ds:=r.map f) e1 e2
  obtain ⟨E',e4,e5⟩:=forL_fold f st I r (st s x) E2 (fun s E hE y hy=>h s E hE y (List.mem_cons_of_mem _ hy)) i2
  exact ⟨E',by rw [List.map_cons,e3]; exact e4,e5⟩
theorem forL_pre {α:Type} (f:α->D) (I:List α->Ev->Prop) (xs:List α) (h:∀ pre x post,xs=pre++x :: post->∀ E,I pre E->∃ E1,set (f x) E=some E1/\Goes (b E1) (I (pre++[x]))) :
  ∀ (E:Ev),I [] E->∃ E',forL set b (xs.map f) E=.ok (.nx E')/\I xs E':=by
 have key:∀ (post pre:List α) (E:Ev),xs=pre++post->I pre E->∃ E',forL set b (post.map f) E=.ok (.nx E')/\I xs E':=by
  intro post
  induction post with
  | nil=>intro pre E e h0; exact ⟨E,rfl,by rw [e,List.append_nil]; exact h0⟩
  | cons x r ih =>
   intro pre E e h0
   obtain ⟨E1,e1,e2⟩:=h pre x r e E h0
   obtain ⟨E2,i2,e3⟩:=forL_cons (ds:=r.map f) e1 e2
   obtain ⟨E',e4,e5⟩:=ih (pre++[x]) E2 (by rw [e]; simp) i2
   exact ⟨E',by rw [List.map_cons,e3]; exact e4,e5⟩
 exact fun E h0=>key xs [] E rfl h0
noncomputable def foldX {α S:Type} (st:S->α->D ⊕ S):List α->S->D ⊕ S
 | [],s=>.inr s
 | x :: r,s=>match st s x with
  | .inl d=>.inl d
  | .inr s'=>foldX st r s'
end
theorem compL_ok {α:Type} {set:D->Ev->Option Ev} {mt:Ev->R Bool} {me:EV} {E:Ev} (f:α->D) (p:α->Bool) (g:α->D):∀ (xs:List α),(∀ x ∈ xs,∃ E1,set (f x) E=some E1/\mt E1=.ok (p x)/\(p x=true->me E1=.ok (g x))) →
  compL set mt me E (xs.map f)=.ok ((xs.filter p).map g)
 | [],_=>rfl
 | x :: r,h=>by
  obtain ⟨E1,e1,e2,e3⟩:=h x (by simp)
  rw [List.map_cons]
  unfold compL
  rw [e1]
  dsimp only
  rw [e2]
  have ih:=compL_ok f p g r fun y hy=>h y (List.mem_cons_of_mem _ hy)
  by_cases hp:p x=true
  ·rw [hp,List.filter_cons_of_pos hp,List.map_cons]
   simp only [R.ok_bind,if_true]
   rw [e3 hp,ih]; rfl
  ·rw [List.filter_cons_of_neg hp]
   have:p x=false:=by simpa using hp
   rw [this]
   simp only [R.ok_bind,Bool.false_eq_true,if_false]
   exact ih
theorem compL_map {α:Type} {set:D->Ev->Option Ev} {me:EV} {E:Ev} (f:α->D) (g:α->D) (xs:List α) (h:∀ x ∈ xs,∃ E1,set (f x) E=some E1/\me E1=.ok (g x)) :
  compL set tTrue me E (xs.map f)=.ok (xs.map g):=by
 rw [compL_ok f (fun _=>true) g xs fun x hx=>by obtain ⟨E1,e1,e2⟩:=h x hx; exact ⟨E1,e1,rfl,fun _=>e2⟩,List.filter_eq_self.2 (by simp)]
@[simp] theorem eComp_e (ts:List Nat) (set:D->Ev->Option Ev) (mi:Ev->R (List D)) (mt:Ev->R Bool) (me:EV) (E:Ev):eComp ts set mi mt me E=(if noOw ts E=true then (mi E >>= fun ds=>if ds.length<=1000000 then (compL set mt me (clr ts E) ds >>= fun ys=>.ok (.lst ys)) else .no) else .no):=rfl
end M

set_option Elab.async false
set_option linter.all false
namespace M
open PySem PySem.Spec PyProof.Rows L2 Ma
theorem fLt_S (a b:Sq):fLt (dS a) (dS b)=some (.bl (decide (Slt a b))):=by
 show (some (D.bl (HT.lexLt [a.1,a.2] [b.1,b.2])))=_
 simp only [HT.lexLt_cons,HT.lexLt_nil_nil]
 unfold Slt
 by_cases h:a.1=b.1
 ·simp [h]; omega
 ·simp [h]
theorem fGe_S (a b:Sq):fGe (dS a) (dS b)=some (.bl (!(decide (Slt a b)))):=by
 show (some (D.bl (!(HT.lexLt [a.1,a.2] [b.1,b.2]))))=_
 simp only [HT.lexLt_cons,HT.lexLt_nil_nil]
 unfold Slt
 by_cases h:a.1=b.1
 ·simp [h]; omega
 ·simp [h]
theorem cut_from (ds:List D) (k:Nat):cutD ds (some (k:Int)) none=ds.drop k:=by
 unfold cutD
 rw [HT.sIx_nat,HT.sIx_none]
 by_cases h:k<=ds.length
 ·rw [Nat.min_eq_left h,List.take_of_length_le (by simp)]
 ·rw [Nat.min_eq_right (by omega),List.drop_of_length_le (Nat.le_refl _),List.drop_of_length_le (by omega)]; simp
@[simp] theorem fSl_1 (ds:List D):fSl (.lst ds) (some 1) none=some (.lst (ds.drop 1)):=by
 show some (D.lst (cutD ds (some ((1:Nat):Int)) none))=_
 rw [cut_from]
theorem zip_map2 (F G:List Sq):List.zipWith (fun a b=>D.tup [a,b]) (F.map dS) (G.map dS)=(F.zip G).map fun p=>D.tup [dS p.1,dS p.2]:=by
 rw [List.zipWith_map,List.zip,List.map_zipWith]
@[simp] theorem eqb_S (a b:Sq):eqb (dS a) (dS b)=decide (a=b):=by
 rcases a with ⟨a1,a2⟩; rcases b with ⟨b1,b2⟩
 simp only [eqb,eqbs,Prod.mk.injEq,Bool.and_true]
 by_cases h:a1=b1<;>by_cases h':a2=b2<;>simp [h,h']
@[simp] theorem pl3_S (a:Sq):pl 3 (dS a)=true:=rfl
@[simp] theorem pl4_S (a:Sq):pl 4 (dS a)=true:=rfl
theorem pls3_S:∀ (L:List Sq),pls 3 (L.map dS)=true
 | []=>rfl
 | a :: r=>by
  have:=pls3_S r
  simp [pls,this]
theorem any_S (q:Sq):∀ (L:List Sq),((L.map dS).any fun y=>eqb y (dS q))=decide (q ∈ L)
 | []=>rfl
 | a :: r=>by
  rw [List.map_cons,List.any_cons,any_S q r,eqb_S]
  by_cases h:a=q
  ·simp [h]
  ·have h':¬ q=a:=fun e=>h e.symm
   simp [h,h']
theorem fIn_S (q:Sq) (L:List Sq):fIn (dS q) (dL L)=some (.bl (decide (q ∈ L))):=by
 show (if (pl 3 (dS q) && pls 3 (L.map dS))=true then some (D.bl ((L.map dS).any fun y=>eqb y (dS q))) else none)=_
 rw [pls3_S,any_S]; rfl
theorem fNotIn_S (q:Sq) (L:List Sq):fNotIn (dS q) (dL L)=some (.bl (!(decide (q ∈ L)))):=by
 show (if (pl 3 (dS q) && pls 3 (L.map dS))=true then some (D.bl (!((L.map dS).any fun y=>eqb y (dS q)))) else none)=_
 rw [pls3_S,any_S]; rfl
theorem keyOf_S (q:Sq):keyOf (dS q)=some [q.1,q.2]:=rfl
theorem eqbs_L:∀ (L M:List Sq),eqbs (L.map dS) (M.map dS)=decide (L=M)
 | [],[]=>rfl
 | [],b :: r=>by simp [eqbs]
 | a :: r,[]=>by simp [eqbs]
 | a :: r,b :: s=>by
  rw [List.map_cons,List.map_cons,eqbs,eqb_S,eqbs_L r s]
  by_cases h:a=b<;>by_cases h':r=s<;>simp [h,h']
theorem pl4_L (L:List Sq):pl 4 (dL L)=true:=pls3_S L
@[simp] theorem fEq_L (L M:List Sq):fEq (dL L) (dL M)=some (.bl (decide (L=M))):=by
 show (if (pl 4 (dL L) && pl 4 (dL M))=true then some (D.bl (eqbs (L.map dS) (M.map dS))) else none)=_
 rw [pl4_L,pl4_L,eqbs_L]; rfl
@[simp] theorem fNe_L (L M:List Sq):fNe (dL L) (dL M)=some (.bl (!(decide (L=M)))):=by
 show (if (pl 4 (dL L) && pl 4 (dL M))=true then some (D.bl (!(eqbs (L.map dS) (M.map dS)))) else none)=_
 rw [pl4_L,pl4_L,eqbs_L]; rfl
theorem fEq_S (a b:Sq):fEq (dS a) (dS b)=some (.bl (decide (a=b))):=by
 show (if (pl 4 (dS a) && pl 4 (dS b))=true then some (D.bl (eqb (dS a) (dS b))) else none)=_
 rw [eqb_S]; rfl
theorem fNe_S (a b:Sq):fNe (dS a) (dS b)=some (.bl (!(decide (a=b)))):=by
 show (if (pl 4 (dS a) && pl 4 (dS b))=true then some (D.bl (!(eqb (dS a) (dS b)))) else none)=_
 rw [eqb_S]; rfl
theorem dget_D (q:Sq):∀ (L:List Sq),(dget (L.map fun s=>([s.1,s.2],D.bl true)) [q.1,q.2]).isSome=decide (q ∈ L)
 | []=>rfl
 | a :: r=>by
  have ih:=dget_D q r
  rw [List.map_cons]
  unfold dget
  rcases a with ⟨a1,a2⟩; rcases q with ⟨q1,q2⟩
  by_cases h:a1=q1/\a2=q2
  ·obtain ⟨rfl,rfl⟩:=h; simp
  ·have h1:¬ ([a1,a2]=[q1,q2]):=fun e=>h (by simpa using e)
   have h2:¬ ((q1,q2)=(a1,a2)):=fun e=>h (by simp at e; exact ⟨e.1.symm,e.2.symm⟩)
   simp only [h1,if_false]
   rw [ih]
   simp only [List.mem_cons,h2,false_or]
theorem fDin_S (q:Sq) (L:List Sq):fDin (dS q) (dD L)=some (.bl (decide (q ∈ L))):=by
 show ((keyOf (dS q)).map fun ks=>D.bl (dget (L.map fun s=>([s.1,s.2],D.bl true)) ks).isSome)=_
 rw [keyOf_S,Option.map_some,dget_D]
theorem fDnotIn_S (q:Sq) (L:List Sq):fDnotIn (dS q) (dD L)=some (.bl (!(decide (q ∈ L)))):=by
 show ((keyOf (dS q)).map fun ks=>D.bl (!(dget (L.map fun s=>([s.1,s.2],D.bl true)) ks).isSome))=_
 rw [keyOf_S,Option.map_some,dget_D]
@[simp] theorem keyOf_2 (a b:Int):keyOf (.tup [.int a,.int b])=some [a,b]:=rfl
@[simp] theorem fLt_2 (a b c d:Int):fLt (.tup [.int a,.int b]) (.tup [.int c,.int d])=some (.bl (decide (Slt (a,b) (c,d)))):=fLt_S (a,b) (c,d)
@[simp] theorem fGe_2 (a b c d:Int):fGe (.tup [.int a,.int b]) (.tup [.int c,.int d])=some (.bl (!(decide (Slt (a,b) (c,d))))):=fGe_S (a,b) (c,d)
@[simp] theorem fEq_2 (a b c d:Int):fEq (.tup [.int a,.int b]) (.tup [.int c,.int d])=some (.bl (decide ((a,b)=(c,d)))):=fEq_S (a,b) (c,d)
@[simp] theorem fNe_2 (a b c d:Int):fNe (.tup [.int a,.int b]) (.tup [.int c,.int d])=some (.bl (!(decide ((a,b)=(c,d))))):=fNe_S (a,b) (c,d)
@[simp] theorem fIn_2 (a b:Int) (L:List Sq):fIn (.tup [.int a,.int b]) (dL L)=some (.bl (decide ((a,b) ∈ L))):=fIn_S (a,b) L
@[simp] theorem fNotIn_2 (a b:Int) (L:List Sq):fNotIn (.tup [.int a,.int b]) (dL L)=some (.bl (!(decide ((a,b) ∈ L)))):=fNotIn_S (a,b) L
@[simp] theorem fDin_2 (a b:Int) (L:List Sq):fDin (.tup [.int a,.int b]) (dD L)=some (.bl (decide ((a,b) ∈ L))):=fDin_S (a,b) L
@[simp] theorem fDnotIn_2 (a b:Int) (L:List Sq):fDnotIn (.tup [.int a,.int b]) (dD L)=some (.bl (!(decide ((a,b) ∈ L)))):=fDnotIn_S (a,b) L
theorem dput_D (q:Sq) (L:List Sq) (h:q ∉ L):dput (L.map fun s=>([s.1,s.2],D.bl true)) [q.1,q.2] (.bl true)=(L++[q]).map fun s=>([s.1,s.2],D.bl true):=by
 unfold dput
 have:((L.map fun s=>([s.1,s.2],D.bl true)).any fun kv=>decide (kv.1=[q.1,q.2]))=false:=by
  rw [List.any_eq_false]
  intro x hx
  obtain ⟨s,hs,rfl⟩:=List.mem_map.mp hx
  simp only [decide_eq_true_eq]
  intro e
  apply h
  have:s=q:=by
   rcases s with ⟨s1,s2⟩; rcases q with ⟨q1,q2⟩
   simpa using e
  rw [<-this]; exact hs
 rw [this]
 simp
theorem dputs_D:∀ (M L:List Sq),(L++M).Nodup->dputs (L.map fun s=>([s.1,s.2],D.bl true)) (M.map fun s=>([s.1,s.2],D.bl true))=(L++M).map fun s=>([s.1,s.2],D.bl true)
 | [],L,_=>by simp [dputs]
 | q :: M,L,h=>by
  have h1:q ∉ L:=fun hq=>by
   rw [List.nodup_append] at h
   exact h.2.2 q hq q (by simp) rfl
  show dputs (dput (L.map fun s=>([s.1,s.2],D.bl true)) [q.1,q.2] (.bl true)) (M.map fun s=>([s.1,s.2],D.bl true))=_
  rw [dput_D q L h1,dputs_D M (L++[q]) (by simpa using h)]
  simp
theorem dPairs_D:∀ (L:List Sq),dPairs (L.map fun s=>D.tup [dS s,.bl true])=some (L.map fun s=>([s.1,s.2],D.bl true))
 | []=>rfl
 | q :: L=>by
  rw [List.map_cons]
  unfold dPairs
  rw [dPairs_D L]
  rfl
theorem fDict_D (L:List Sq) (h:L.Nodup) (hl:L.length<=1000000):fDict (.lst (L.map fun s=>D.tup [dS s,.bl true]))=some (dD L):=by
 unfold fDict
 dsimp only
 rw [List.length_map,if_pos hl,dPairs_D,Option.map_some]
 have:=dputs_D L [] (by simpa using h)
 simp only [List.map_nil,List.nil_append] at this
 rw [this]
end M

set_option Elab.async false
set_option linter.all false
set_option maxRecDepth 100000
namespace M
open PySem PySem.Spec PyProof.Rows L2 Ma
theorem pairs_lt {F:List Sq} (h:F.Pairwise Slt):∀ p ∈ F.zip (F.drop 1),Slt p.1 p.2:=by
 intro p hp
 obtain ⟨i,hi,e⟩:=List.mem_iff_getElem.mp hp
 rw [List.pairwise_iff_getElem] at h
 simp at hi
 have:=h i (i + 1) (by omega) (by omega) (by omega)
 rw [<-e]
 simp only [List.getElem_zip,List.getElem_drop,Nat.add_comm 1 i]
 exact this
noncomputable def grid (a b c d:Int):List Sq:=(rng a b).flatMap fun r=>(rng c d).map fun k=>(r,k)
theorem mem_grid {a b c d:Int} {q:Sq}:q ∈ grid a b c d ↔ a<=q.1/\q.1 < b/\c<=q.2/\q.2 < d:=by
 unfold grid
 simp only [List.mem_flatMap,List.mem_map,mem_rng]
 constructor
 ·rintro ⟨r,h,k,h',rfl⟩; exact ⟨h.1,h.2,h'.1,h'.2⟩
 ·rintro ⟨h1,h2,h3,h4⟩; exact ⟨q.1,⟨h1,h2⟩,q.2,⟨h3,h4⟩,rfl⟩
theorem grid_len_le (a b c d:Int):(grid a b c d).length=(b - a).toNat * (d - c).toNat:=by
 unfold grid
 rw [List.length_flatMap]
 simp only [List.length_map,rng_length,List.map_const',List.sum_replicate_nat]
theorem inR_len {L:List Sq} (h:L.Nodup) (hi:∀ x ∈ L,InR x):L.length<=100:=by
 have:=nodup_len (l2:=grid (-1) 9 (-1) 9) h fun x hx=>mem_grid.2 (by have:=hi x hx; unfold InR at this; omega)
 rw [grid_len_le] at this
 exact this
structure Dfs (F R W:List Sq):Prop where
 nd:R.Nodup
 st:(-1,-1) ∈ R
 ok:∀ x ∈ R,Reach F x
 wr:∀ x ∈ W,x ∈ R
 wn:W.Nodup
 cl:∀ p ∈ R,p ∉ W->∀ q,Near p q->q ∉ F->q ∈ R
theorem place_sorted {top left wide:Int} (hw:0 < wide) (n:Int):((rng 0 n).map fun k=>(top + k / wide,left + k % wide)).Pairwise Slt:=by
 rw [List.pairwise_map]
 refine (rng_pairwise 0 n).imp fun {a b} h=>?_
 unfold Slt
 simp only
 have h1:=Int.emod_add_mul_ediv a wide
 have h2:=Int.emod_add_mul_ediv b wide
 have h3:a / wide<=b / wide:=Int.ediv_le_ediv hw (by omega)
 rcases Int.lt_or_eq_of_le h3 with h4 | h4
 ·left; omega
 ·right
  rw [h4] at h1
  exact ⟨by omega,by omega⟩
theorem place_on {top left wide high:Int} (hw:0 < wide) (ht:0<=top) (hl:0<=left) (h1:top + high<=8) (h2:left + wide<=8):∀ s ∈ ((rng 0 (high * wide)).map fun k=>(top + k / wide,left + k % wide)),OnB s:=by
 intro s hs
 obtain ⟨k,hk,rfl⟩:=List.mem_map.mp hs
 rw [mem_rng] at hk
 have a1:0<=k / wide:=Int.ediv_nonneg hk.1 (by omega)
 have a2:k / wide < high:=Int.ediv_lt_of_lt_mul hw hk.2
 have a3:=Int.emod_nonneg k (show wide ≠ 0 by omega)
 have a4:=Int.emod_lt_of_pos k hw
 unfold OnB
 simp only
 omega
theorem sub_floor {F G:List Sq} (h:F.Sublist G) (h1:G.Pairwise Slt) (h2:∀ s ∈ G,OnB s):IsFloor F:=⟨h1.sublist h,fun s hs=>h2 s (h.subset hs)⟩
noncomputable def rnd (q:Sq) (R:List Sq):Bool:=(rng (q.1 - 1) (q.1 + 2)).any fun r=>(rng (q.2 - 1) (q.2 + 2)).any fun c=>decide ((r,c) ∈ R)
structure Grow (F R:List Sq):Prop where
 nd:R.Nodup
 st:(-1,-1) ∈ R
 ok:∀ x ∈ R,Reach F x
noncomputable def outs (F:List Sq):List Sq:=(grid (-1) 9 (-1) 9).filter fun q=>!(decide (q ∈ F))
@[simp] theorem fAdd_l (a b:List D):fAdd (.lst a) (.lst b)=if a.length + b.length<=1000000 then some (.lst (a++b)) else none:=rfl
theorem goes_mk {r:R Out} {E:Ev} {P:Ev->Prop} (hp:P E) (h:r=.ok (.nx E)):Goes r P:=by rw [h]; exact hp
noncomputable def rows (pre:List Int):List Sq:=pre.flatMap fun r=>(rng (-1) 9).map fun c=>(r,c)
noncomputable def four (F:List Sq) (s:Sq):Bool:=decide ((s.1 - 1,s.2 - 1) ∈ F) && (decide ((s.1 - 1,s.2) ∈ F) && (decide ((s.1,s.2 - 1) ∈ F) && decide (s ∈ F)))
theorem rng_pre_sub {a b:Int} {pre:List Int} {x:Int} {post:List Int} (e:rng a b=pre++x :: post):a<=x/\x < b:=by
 have:x ∈ rng a b:=by rw [e]; simp
 exact mem_rng.1 this
end M

set_option Elab.async false
set_option linter.all false
set_option maxRecDepth 100000
namespace M
open PySem PySem.Spec PyProof.Rows L2 Ma
noncomputable abbrev Fl:=Int × Int × Int
noncomputable abbrev dF (f:Fl):D:=.tup [.int f.1,.int f.2.1,.int f.2.2]
noncomputable abbrev dFL (L:List Fl):D:=.lst (L.map dF)
noncomputable def pos2 (f:Fl):Sq:=(f.1,f.2.1)
noncomputable def mate (f:Fl):Sq:=if f.2.2=0 then (f.1,f.2.1 + 1) else (f.1 + 1,f.2.1)
noncomputable def cells (f:Fl):List Sq:=[pos2 f,mate f]
noncomputable def cover (L:List Fl):List Sq:=L.flatMap cells
structure Lay (F:List Sq) (L:List Fl):Prop where
 ord:L.Pairwise fun a b=>Slt (pos2 a) (pos2 b)
 way:∀ f ∈ L,f.2.2=0\/f.2.2=1
 cov:(cover L).Perm F
noncomputable def sk (s:Sq):List Int:=[s.1,s.2]
noncomputable def fk (f:Fl):List Int:=[f.1,f.2.1,f.2.2]
noncomputable def unsk (k:List Int):Sq:=(k.getD 0 0,k.getD 1 0)
noncomputable def unfk (k:List Int):Fl:=(k.getD 0 0,k.getD 1 0,k.getD 2 0)
noncomputable def sortS (S:List Sq):List Sq:=(sortK (S.map sk)).map unsk
noncomputable def sortF (S:List Fl):List Fl:=(sortK (S.map fk)).map unfk
theorem map_unsk {l:List (List Int)} {S:List Sq} (h:l.Perm (S.map sk)):(l.map unsk).map sk=l:=by
 rw [List.map_map]
 conv=>rhs; rw [<-List.map_id l]
 refine List.map_congr_left fun k hk=>?_
 obtain ⟨s,_,rfl⟩:=List.mem_map.mp (h.mem_iff.mp hk)
 rfl
theorem map_unfk {l:List (List Int)} {S:List Fl} (h:l.Perm (S.map fk)):(l.map unfk).map fk=l:=by
 rw [List.map_map]
 conv=>rhs; rw [<-List.map_id l]
 refine List.map_congr_left fun k hk=>?_
 obtain ⟨s,_,rfl⟩:=List.mem_map.mp (h.mem_iff.mp hk)
 rfl
theorem sortS_sk (S:List Sq):(sortS S).map sk=sortK (S.map sk):=map_unsk (sortK_perm _)
theorem sortF_fk (S:List Fl):(sortF S).map fk=sortK (S.map fk):=map_unfk (sortK_perm _)
theorem sortS_perm (S:List Sq):(sortS S).Perm S:=by
 have h:=(sortK_perm (S.map sk)).map unsk
 have e:(S.map sk).map unsk=S:=by rw [List.map_map,show unsk ∘ sk=id from rfl,List.map_id]
 rw [e] at h; exact h
theorem sortF_perm (S:List Fl):(sortF S).Perm S:=by
 have h:=(sortK_perm (S.map fk)).map unfk
 have e:(S.map fk).map unfk=S:=by rw [List.map_map,show unfk ∘ fk=id from rfl,List.map_id]
 rw [e] at h; exact h
theorem lexLt_sk (a b:Sq):HT.lexLt (sk a) (sk b)=decide (Slt a b):=by
 unfold sk
 simp only [HT.lexLt_cons,HT.lexLt_nil_nil]
 unfold Slt
 by_cases h:a.1=b.1
 ·simp [h]; omega
 ·simp [h]
noncomputable def Flt (a b:Fl):Prop:=Slt (pos2 a) (pos2 b)\/(pos2 a=pos2 b/\a.2.2 < b.2.2)
instance (a b:Fl):Decidable (Flt a b):=by unfold Flt; exact inferInstance
theorem lexLt_fk (a b:Fl):HT.lexLt (fk a) (fk b)=decide (Flt a b):=by
 unfold fk
 simp only [HT.lexLt_cons,HT.lexLt_nil_nil]
 unfold Flt Slt pos2
 rcases a with ⟨a1,a2,a3⟩; rcases b with ⟨b1,b2,b3⟩
 by_cases h:a1=b1<;>by_cases h':a2=b2<;>simp [h,h']<;>omega
theorem sortS_asc (S:List Sq):(sortS S).Pairwise fun a b=>¬ Slt b a:=by
 have h:=sortK_asc (S.map sk)
 rw [<-sortS_sk] at h
 unfold Asc at h
 rw [List.pairwise_map] at h
 exact h.imp fun {a b} h=>by rw [lexLt_sk] at h; simpa using h
theorem sortF_asc (S:List Fl):(sortF S).Pairwise fun a b=>¬ Flt b a:=by
 have h:=sortK_asc (S.map fk)
 rw [<-sortF_fk] at h
 unfold Asc at h
 rw [List.pairwise_map] at h
 exact h.imp fun {a b} h=>by rw [lexLt_fk] at h; simpa using h
theorem sortS_strict {S:List Sq} (h:S.Nodup):(sortS S).Pairwise Slt:=by
 have h1:=sortS_asc S
 have h2:(sortS S).Nodup:=(sortS_perm S).nodup_iff.mpr h
 have h3:=h1.and h2
 exact h3.imp fun {a b} hh=>by
  rcases Slt.tri (a:=a) (b:=b) with t | t | t
  ·exact t
  ·exact absurd t hh.2
  ·exact absurd t hh.1
theorem sortS_of {S F:List Sq} (h:F.Pairwise Slt) (p:S.Perm F):sortS S=F:=by
 have h1:(S.map sk).Perm (F.map sk):=p.map sk
 have h2:Asc (F.map sk):=by
  unfold Asc
  rw [List.pairwise_map]
  refine h.imp fun {a b} hh=>?_
  rw [lexLt_sk]
  simp only [decide_eq_false_iff_not]
  exact fun z=>Slt.irr (Slt.trans hh z)
 have h3:F.map sk=sortK (S.map sk):=sortK_unique h2 h1.symm
 unfold sortS
 rw [<-h3,List.map_map]
 conv=>rhs; rw [<-List.map_id F]
 rfl
theorem dTups_S:∀ (S:List Sq),dTups (S.map dS)=some (S.map sk)
 | []=>rfl
 | s :: r=>by
  rw [List.map_cons]
  unfold dTups
  rw [dTups_S r]; rfl
theorem dTups_F:∀ (S:List Fl),dTups (S.map dF)=some (S.map fk)
 | []=>rfl
 | s :: r=>by
  rw [List.map_cons]
  unfold dTups
  rw [dTups_F r]; rfl
theorem fSort_S65 (S:List Sq) (h:S.length < 65):fSort (dL S)=some (dL (sortS S)):=by
 show ((dTups (S.map dS)).bind fun ks=>if ks.length < 65 then some (D.lst ((sortK ks).map kT)) else none)=_
 rw [dTups_S]
 simp only [Option.bind_some,List.length_map,h,if_true]
 rw [<-sortS_sk,List.map_map]; rfl
theorem fSort_F65 (S:List Fl) (h:S.length < 65):fSort (dFL S)=some (dFL (sortF S)):=by
 show ((dTups (S.map dF)).bind fun ks=>if ks.length < 65 then some (D.lst ((sortK ks).map kT)) else none)=_
 rw [dTups_F]
 simp only [Option.bind_some,List.length_map,h,if_true]
 rw [<-sortF_fk,List.map_map]; rfl
@[simp] theorem eqb_F (a b:Fl):eqb (dF a) (dF b)=decide (a=b):=by
 rcases a with ⟨a1,a2,a3⟩; rcases b with ⟨b1,b2,b3⟩
 simp only [eqb,eqbs,Prod.mk.injEq,Bool.and_true]
 by_cases h:a1=b1<;>by_cases h':a2=b2<;>by_cases h'':a3=b3<;>simp [h,h',h'']
theorem pls3_F:∀ (L:List Fl),pls 3 (L.map dF)=true
 | []=>rfl
 | a :: r=>by
  have h1:pl 3 (dF a)=true:=rfl
  have:=pls3_F r
  simp [pls,this]
  exact h1
theorem any_F (q:Fl):∀ (L:List Fl),((L.map dF).any fun y=>eqb y (dF q))=decide (q ∈ L)
 | []=>rfl
 | a :: r=>by
  rw [List.map_cons,List.any_cons,any_F q r,eqb_F]
  by_cases h:a=q
  ·simp [h]
  ·have h':¬ q=a:=fun e=>h e.symm
   simp [h,h']
@[simp] theorem fIn_3 (a b c:Int) (L:List Fl):fIn (.tup [.int a,.int b,.int c]) (dFL L)=some (.bl (decide ((a,b,c) ∈ L))):=by
 show (if (pl 3 (dF (a,b,c)) && pls 3 (L.map dF))=true then some (D.bl ((L.map dF).any fun y=>eqb y (dF (a,b,c)))) else none)=_
 rw [pls3_F,any_F]; rfl
@[simp] theorem fNotIn_3 (a b c:Int) (L:List Fl):fNotIn (.tup [.int a,.int b,.int c]) (dFL L)=some (.bl (!(decide ((a,b,c) ∈ L)))):=by
 show (if (pl 3 (dF (a,b,c)) && pls 3 (L.map dF))=true then some (D.bl (!((L.map dF).any fun y=>eqb y (dF (a,b,c))))) else none)=_
 rw [pls3_F,any_F]; rfl
theorem eqbs_FL:∀ (L M:List Fl),eqbs (L.map dF) (M.map dF)=decide (L=M)
 | [],[]=>rfl
 | [],b :: r=>by simp [eqbs]
 | a :: r,[]=>by simp [eqbs]
 | a :: r,b :: s=>by
  rw [List.map_cons,List.map_cons,eqbs,eqb_F,eqbs_FL r s]
  by_cases h:a=b<;>by_cases h':r=s<;>simp [h,h']
theorem pl4_FL (L:List Fl):pl 4 (dFL L)=true:=pls3_F L
@[simp] theorem fEq_FL (L M:List Fl):fEq (dFL L) (dFL M)=some (.bl (decide (L=M))):=by
 show (if (pl 4 (dFL L) && pl 4 (dFL M))=true then some (D.bl (eqbs (L.map dF) (M.map dF))) else none)=_
 rw [pl4_FL,pl4_FL,eqbs_FL]; rfl
@[simp] theorem fNe_FL (L M:List Fl):fNe (dFL L) (dFL M)=some (.bl (!(decide (L=M)))):=by
 show (if (pl 4 (dFL L) && pl 4 (dFL M))=true then some (D.bl (!(eqbs (L.map dF) (M.map dF)))) else none)=_
 rw [pl4_FL,pl4_FL,eqbs_FL]; rfl
@[simp] theorem fSl_F (a b c:D):fSl (.tup [a,b,c]) none (some 2)=some (.tup [a,b]):=rfl
theorem zip_mapF (F G:List Fl):List.zipWith (fun a b=>D.tup [a,b]) (F.map dF) (G.map dF)=(F.zip G).map fun p=>D.tup [dF p.1,dF p.2]:=by
 rw [List.zipWith_map,List.zip,List.map_zipWith]
end M

set_option Elab.async false
set_option linter.all false
set_option maxRecDepth 100000
namespace M
open PySem PySem.Spec PyProof.Rows L2 Ma
noncomputable def pairAt (s:Sq) (w:Int):List Fl:=if w=0 then [(s.1 - 1,s.2 - 1,0),(s.1,s.2 - 1,0)] else [(s.1 - 1,s.2 - 1,1),(s.1 - 1,s.2,1)]
noncomputable def hasP (L:List Fl) (s:Sq) (w:Int):Bool:=(pairAt s w).all fun f=>decide (f ∈ L)
noncomputable def slopeOf (L:List Fl) (s:Sq):Int:=if hasP L s (1 - (s.1 + s.2) % 2) then 1 else if hasP L s (1 - (1 - (s.1 + s.2) % 2)) then -1 else 0
theorem mem_cover {L:List Fl} {q:Sq}:q ∈ cover L ↔ ∃ f ∈ L,q=pos2 f\/q=mate f:=by
 unfold cover cells
 simp [List.mem_flatMap]
end M

set_option Elab.async false
set_option linter.all false
set_option maxRecDepth 100000
namespace M
open PySem PySem.Spec PyProof.Rows L2 Ma
structure LInv (high wide top left:Int) (pre:List Int) (L:List Fl):Prop where
 ord:L.Pairwise fun a b=>Slt (pos2 a) (pos2 b)
 at':∀ f ∈ L,∃ k ∈ pre,pos2 f=(top + k / wide,left + k % wide)
 way:∀ f ∈ L,(f.2.2=0/\f.2.1 + 1 < left + wide)\/(f.2.2=1/\f.1 + 1 < top + high)
 nd:(cover L).Nodup
 len:L.length<=pre.length
structure Drawn (high wide top left:Int) (F:List Sq) (L:List Fl):Prop where
 fl:IsFloor F
 lay:Lay F L
 len:(F.length:Int)<=high * wide
end M

set_option Elab.async false
set_option linter.all false
set_option maxRecDepth 100000
namespace M
open PySem PySem.Spec PyProof.Rows L2 Ma
theorem once {q:Sq}:∀ {L:List Fl},(cover L).Nodup->∀ {f g:Fl},f ∈ L->g ∈ L->q ∈ cells f->q ∈ cells g->f=g
 | [],_,f,_,hf,_,_,_=>by simp at hf
 | x :: r,h,f,g,hf,hg,qf,qg=>by
  have e:cover (x :: r)=cells x++cover r:=by unfold cover; simp
  rw [e,List.nodup_append] at h
  obtain ⟨_,h2,h3⟩:=h
  have inr:∀ {k:Fl},k ∈ r->q ∈ cells k->q ∈ cover r:=fun hk hq=>by unfold cover; exact List.mem_flatMap.mpr ⟨_,hk,hq⟩
  rcases List.mem_cons.mp hf with ef | hf'
  ·rcases List.mem_cons.mp hg with eg | hg'
   ·rw [ef,eg]
   ·rw [ef] at qf; exact absurd rfl (h3 q qf q (inr hg' qg))
  ·rcases List.mem_cons.mp hg with eg | hg'
   ·rw [eg] at qg; exact absurd rfl (h3 q qg q (inr hf' qf))
   ·exact once h2 hf' hg' qf qg
noncomputable def ind (L:List Fl) (f:Fl):Int:=if f ∈ L then 1 else 0
noncomputable def sg (n:Int):Int:=1 - 2 * (n % 2)
noncomputable def dl (A B:List Fl) (f:Fl):Int:=ind A f - ind B f
noncomputable def hN (A B:List Fl) (r:Int):Nat->Int
 | 0=>0
 | n + 1=>hN A B r n + sg (r + (n + 1)) * dl A B (r - 1,n,1)
noncomputable def ht (A B:List Fl) (r c:Int):Int:=hN A B r c.toNat
section
variable {F:List Sq} {A B:List Fl}
end
end M

set_option Elab.async false
set_option linter.all false
set_option maxRecDepth 100000
namespace M
open PySem PySem.Spec PyProof.Rows L2 Ma
noncomputable def twin (f:Fl):Fl:=(f.1 + 1 - f.2.2,f.2.1 + f.2.2,f.2.2)
noncomputable def tn1 (f:Fl):Fl:=(f.1,f.2.1,1 - f.2.2)
noncomputable def tn2 (f:Fl):Fl:=(f.1 + f.2.2,f.2.1 + 1 - f.2.2,1 - f.2.2)
noncomputable def turnOf (L:List Fl) (f:Fl):List Fl:=sortF (L.filter (fun g=>!(decide (g=f) || decide (g=twin f)))++[tn1 f,tn2 f])
theorem nodup_L {L:List Fl} (h:(cover L).Nodup):L.Nodup:=by
 induction L with
 | nil=>simp
 | cons x r ih =>
  have e:cover (x :: r)=cells x++cover r:=by unfold cover; simp
  rw [e,List.nodup_append] at h
  obtain ⟨h1,h2,h3⟩:=h
  rw [List.nodup_cons]
  refine ⟨fun hx=>?_,ih h2⟩
  have hp:pos2 x ∈ cells x:=by simp [cells]
  exact h3 _ hp _ (mem_cover.2 ⟨x,hx,.inl rfl⟩) rfl
theorem cover_perm {L M:List Fl} (h:L.Perm M):(cover L).Perm (cover M):=by
 unfold cover
 exact h.flatMap_right cells
theorem ord_of {S:List Fl} (h:(cover S).Nodup):(sortF S).Pairwise fun a b=>Slt (pos2 a) (pos2 b):=by
 have h1:=sortF_asc S
 have hc:(cover (sortF S)).Nodup:=(cover_perm (sortF_perm S)).nodup_iff.mpr h
 have h2:=nodup_L hc
 have h3:(sortF S).Pairwise fun a b=>a ∈ sortF S/\b ∈ sortF S:=by
  rw [List.pairwise_iff_getElem]
  intro i j hi hj _
  exact ⟨List.getElem_mem hi,List.getElem_mem hj⟩
 refine ((h1.and h2).and h3).imp fun {a b} hh=>?_
 obtain ⟨⟨n1,n2⟩,ma,mb⟩:=hh
 have ne:pos2 a ≠ pos2 b:=fun e=>n2 (once hc ma mb (q:=pos2 a) (by simp [cells]) (by rw [e]; simp [cells]))
 rcases Slt.tri (a:=pos2 a) (b:=pos2 b) with t | t | t
 ·exact t
 ·exact absurd t ne
 ·exact absurd (.inl t) n1
end M

set_option Elab.async false
set_option linter.all false
set_option maxRecDepth 100000
namespace M
open PySem PySem.Spec PyProof.Rows L2 Ma
end M

set_option Elab.async false
set_option linter.all false
set_option maxRecDepth 100000
namespace M
open PySem PySem.Spec PyProof.Rows L2 Ma
structure Form where
 hx:Int->Int->Int
 vy:Int->Int->Int
noncomputable def vs (t:Form):Nat->Int
 | 0=>0
 | n + 1=>vs t n + t.vy n 0
noncomputable def hs (t:Form) (r:Int):Nat->Int
 | 0=>0
 | n + 1=>hs t r n + t.hx r n
end M

set_option Elab.async false
set_option linter.all false
set_option maxRecDepth 100000
namespace M
open PySem PySem.Spec PyProof.Rows L2 Ma
end M

set_option Elab.async false
set_option linter.all false
set_option maxRecDepth 100000
namespace M
open PySem PySem.Spec PyProof.Rows L2 Ma
end M

set_option Elab.async false
set_option linter.all false
set_option maxRecDepth 100000
namespace M
open PySem PySem.Spec PyProof.Rows L2 Ma
noncomputable def turnAt (A:List Fl) (s:Sq):List Fl:=turnOf A (s.1 - 1,s.2 - 1,if hasP A s 0 then 0 else 1)
end M

set_option Elab.async false
set_option linter.all false
set_option maxRecDepth 100000
namespace M
open PySem PySem.Spec PyProof.Rows L2 Ma
noncomputable def mu (C:List Sq) (A B:List Fl):Nat:=(C.map fun s=>(ht A B s.1 s.2).natAbs).sum
structure Cl (cl:Int->Int):Prop where
 tow:∀ σ h,(σ=1\/σ=-1)->0 < σ * cl h->0 < σ * h/\cl (h - σ)=cl h - σ
 any:∀ h,cl h ≠ 0->∃ σ,(σ=1\/σ=-1)/\0 < σ * h/\∀ h',0 < σ * h'->0 < σ * cl h'
 le:∀ h,(cl h).natAbs<=h.natAbs
inductive Way (cl:Int->Int) (C:List Sq) (B:List Fl):List Fl->List Sq->List Fl->Prop
 | nil {A}:Way cl C B A [] A
 | snoc {A M A' s}:Way cl C B A M A'->s ∈ C->0 < slopeOf A' s * cl (ht A' B s.1 s.2)->Way cl C B A (M++[s]) (turnAt A' s)
end M

set_option Elab.async false
set_option linter.all false
set_option maxRecDepth 100000
namespace M
open PySem PySem.Spec PyProof.Rows L2 Ma
end M

set_option Elab.async false
set_option linter.all false
set_option maxRecDepth 100000
namespace M
open PySem PySem.Spec PyProof.Rows L2 Ma
end M

set_option Elab.async false
set_option linter.all false
set_option maxRecDepth 100000
namespace M
open PySem PySem.Spec PyProof.Rows L2 Ma
end M

set_option Elab.async false
set_option linter.all false
set_option maxRecDepth 100000
namespace M
open PySem PySem.Spec PyProof.Rows L2 Ma
end M

set_option Elab.async false
set_option linter.all false
set_option maxRecDepth 100000
namespace M
open PySem PySem.Spec PyProof.Rows L2 Ma
noncomputable def code (s:Sq):Nat:=9 * s.1.toNat + s.2.toNat
noncomputable def nbr (s:Sq) (w:Int):Sq:=if w=0 then (s.1,s.2 + 1) else (s.1 + 1,s.2)
end M

set_option Elab.async false
set_option linter.all false
set_option maxRecDepth 100000
namespace M
open PySem PySem.Spec PyProof.Rows L2 Ma
noncomputable def cut (R:List Sq) (o:Sq):List Sq:=R.filter fun t=>!(decide (t=o))
noncomputable def pick (A:List Sq->List (List Fl)) (s:Sq) (R:List Sq) (w:Int):List (List Fl):=if nbr s w ∈ R then (A (cut R (nbr s w))).map fun L=>(s.1,s.2,w) :: L else []
noncomputable def allF:Nat->List Sq->List (List Fl)
 | 0,_=>[]
 | _ + 1,[]=>[[]]
 | n + 1,s :: R=>pick (allF n) s R 0++pick (allF n) s R 1
end M

set_option Elab.async false
set_option linter.all false
set_option maxRecDepth 100000
namespace M
open PySem PySem.Spec PyProof.Rows L2 Ma
noncomputable def flt (A B:List Fl):Bool:=lexLL (A.map fk) (B.map fk)
end M

set_option Elab.async false
set_option linter.all false
namespace M
open PySem PySem.Spec PyProof.Rows L2 Ma
noncomputable abbrev Hs:=List (Sq × Sq)
noncomputable def nbL (F:List Sq) (s:Sq):List Sq:=[(s.1 - 1,s.2),(s.1,s.2 - 1),(s.1,s.2 + 1),(s.1 + 1,s.2)].filter fun q=>decide (q ∈ F)
noncomputable def hget (h:Hs) (x:Sq):Option Sq:=(h.find? fun p=>decide (p.1=x)).map (·.2)
noncomputable def hput (h:Hs) (x y:Sq):Hs:=if (h.any fun p=>decide (p.1=x))=true then h.map fun p=>if p.1=x then (p.1,y) else p else h++[(x,y)]
noncomputable def fpGo (rec:Sq->Hs->List Sq->Option (Bool × Hs × List Sq)) (s:Sq):List Sq->Hs->List Sq->Option (Bool × Hs × List Sq)
 | [],h,t=>some (false,h,t)
 | x :: r,h,t=>if x ∈ t then fpGo rec s r h t else match hget h x with
  | none=>some (true,hput h x s,t++[x])
  | some y=>match rec y h (t++[x]) with
   | none=>none
   | some (true,h',t')=>some (true,hput h' x s,t')
   | some (false,h',t')=>fpGo rec s r h' t'
noncomputable def fp (F:List Sq):Nat->Sq->Hs->List Sq->Option (Bool × Hs × List Sq)
 | 0=>fun _ _ _=>none
 | n + 1=>fun s h t=>fpGo (fp F n) s (nbL F s) h t
theorem hget_mem {h:Hs} {x y:Sq} (e:hget h x=some y):(x,y) ∈ h:=by
 unfold hget at e
 obtain ⟨p,h1,rfl⟩:=Option.map_eq_some_iff.mp e
 have h2:=List.find?_some h1
 have:p.1=x:=by simpa using h2
 rw [<-this]
 exact List.mem_of_find?_eq_some h1
theorem hget_none {h:Hs} {x:Sq} (e:hget h x=none):∀ p ∈ h,p.1 ≠ x:=fun p hp z=>by
 unfold hget at e
 rw [Option.map_eq_none_iff] at e
 have:=List.find?_eq_none.mp e p hp
 simp [z] at this
theorem any_iff {h:Hs} {x:Sq}:(h.any fun p=>decide (p.1=x))=true ↔ hget h x ≠ none:=by
 constructor
 ·intro a z
  obtain ⟨p,hp,e⟩:=List.any_eq_true.mp a
  exact hget_none z p hp (by simpa using e)
 ·intro a
  cases e:hget h x with
  | none=>exact absurd e a
  | some y=>exact List.any_eq_true.mpr ⟨(x,y),hget_mem e,by simp⟩
theorem hput_new {h:Hs} {x y:Sq} (e:hget h x=none):hput h x y=h++[(x,y)]:=by
 unfold hput
 rw [if_neg fun z=>any_iff.mp z e]
theorem hput_old {h:Hs} {x y z:Sq} (e:hget h x=some z):hput h x y=h.map fun p=>if p.1=x then (p.1,y) else p:=by
 unfold hput
 rw [if_pos (any_iff.mpr (by rw [e]; simp))]
theorem keys_old {h:Hs} {x y:Sq}:((h.map fun p=>if p.1=x then (p.1,y) else p).map (·.1))=h.map (·.1):=by
 rw [List.map_map]
 refine List.map_congr_left fun p _=>?_
 show (if p.1=x then (p.1,y) else p).1=p.1
 split<;>rfl
theorem hput_keys {h:Hs} {x y:Sq} (nd:(h.map (·.1)).Nodup):((hput h x y).map (·.1)).Nodup:=by
 cases e:hget h x with
 | none =>
  rw [hput_new e,List.map_append]
  refine List.nodup_append.mpr ⟨nd,by simp,fun a ha b hb z=>?_⟩
  simp only [List.map_cons,List.map_nil,List.mem_singleton] at hb
  obtain ⟨p,hp,rfl⟩:=List.mem_map.mp ha
  exact hget_none e p hp (by rw [z,hb])
 | some w=>rw [hput_old e,keys_old]; exact nd
theorem hput_mem {h:Hs} {x y:Sq} {p:Sq × Sq} (m:p ∈ hput h x y):p ∈ h\/p=(x,y):=by
 cases e:hget h x with
 | none =>
  rw [hput_new e] at m
  rcases List.mem_append.mp m with m | m
  ·exact .inl m
  ·exact .inr (List.mem_singleton.mp m)
 | some w =>
  rw [hput_old e] at m
  obtain ⟨q,hq,rfl⟩:=List.mem_map.mp m
  by_cases z:q.1=x
  ·rw [if_pos z]; exact .inr (by rw [z])
  ·rw [if_neg z]; exact .inl hq
theorem hget_put_ne {h:Hs} {x y q:Sq} (ne:q ≠ x):hget (hput h x y) q=hget h q:=by
 cases e:hget h x with
 | none =>
  rw [hput_new e]
  unfold hget
  rw [List.find?_append]
  have:List.find? (fun p:Sq × Sq=>decide (p.1=q)) [(x,y)]=none:=by simp [Ne.symm ne]
  rw [this,Option.or_none]
 | some w =>
  rw [hput_old e]
  unfold hget
  rw [List.find?_map]
  have e1:((fun p:Sq × Sq=>decide (p.1=q)) ∘ fun p:Sq × Sq=>if p.1=x then (p.1,y) else p)=fun p=>decide (p.1=q):=by
   funext p
   show decide ((if p.1=x then (p.1,y) else p).1=q)=_
   split<;>rfl
  rw [e1,Option.map_map]
  cases f:h.find? fun p=>decide (p.1=q) with
  | none=>rfl
  | some p =>
   have h2:=List.find?_some f
   have h3:p.1=q:=by simpa using h2
   simp only [Option.map_some,Function.comp_apply]
   rw [if_neg (by rw [h3]; exact ne)]
theorem vals_old {x y z:Sq}:∀ {h:Hs},(h.map (·.1)).Nodup->(x,z) ∈ h->(z :: (h.map fun p=>if p.1=x then (p.1,y) else p).map (·.2)).Perm (y :: h.map (·.2))
 | [],_,m=>by cases m
 | p :: r,nd,m=>by
  rw [List.map_cons,List.nodup_cons] at nd
  rw [List.map_cons,List.map_cons,List.map_cons]
  by_cases e:p.1=x
  ·have pz:p.2=z:=by
    rcases List.mem_cons.mp m with q | q
    ·rw [<-q]
    ·exact absurd (List.mem_map.mpr ⟨(x,z),q,e.symm⟩) nd.1
   have rest:(r.map fun p=>if p.1=x then (p.1,y) else p)=r:=by
    conv=>rhs; rw [<-List.map_id r]
    refine List.map_congr_left fun q hq=>?_
    rw [if_neg fun w=>nd.1 (by rw [e,<-w]; exact List.mem_map.mpr ⟨q,hq,rfl⟩)]; rfl
   rw [rest,if_pos e,pz]
   exact List.Perm.swap _ _ _
  ·have m':(x,z) ∈ r:=by
    rcases List.mem_cons.mp m with q | q
    ·exact absurd (by rw [<-q]) e
    ·exact q
   rw [if_neg e]
   exact ((List.Perm.swap _ _ _).trans ((vals_old nd.2 m').cons _)).trans (List.Perm.swap _ _ _)
structure Hok (F:List Sq) (h:Hs):Prop where
 nd:(h.map (·.1)).Nodup
 adj:∀ p ∈ h,p.1 ∈ nbL F p.2
structure FT (F:List Sq) (s:Sq) (h:Hs) (t:List Sq) (h':Hs):Prop where
 ok:Hok F h'
 same:∀ x ∈ t,hget h' x=hget h x
 val:(h'.map (·.2)).Perm (s :: h.map (·.2))
structure FF (F:List Sq) (ns:List Sq) (h:Hs) (t:List Sq) (h':Hs) (t':List Sq):Prop where
 eq:h'=h
 all:∀ x ∈ ns,x ∈ t'
 cls:∀ x ∈ t',x ∈ t\/∃ y,hget h x=some y/\∀ z ∈ nbL F y,z ∈ t'
structure Tok (U t t':List Sq):Prop where
 nd:t'.Nodup
 sub:∀ x ∈ t',x ∈ U
 up:∀ x ∈ t,x ∈ t'
theorem Tok.le {U t t':List Sq} (k:Tok U t t') (nd:t.Nodup):t.length<=t'.length:=nodup_len nd k.up
noncomputable def Told (F U:List Sq) (s:Sq) (ns:List Sq) (h:Hs) (t:List Sq) (r:Option (Bool × Hs × List Sq)):Prop :=
 ∃ b h' t',r=some (b,h',t')/\Tok U t t'/\(b=true->FT F s h t h')/\(b=false->FF F ns h t h' t')
theorem tok_snoc {U t:List Sq} {x:Sq} (nd:t.Nodup) (sub:∀ x ∈ t,x ∈ U) (hx:x ∉ t) (hu:x ∈ U):Tok U t (t++[x]) :=
 ⟨List.nodup_append.mpr ⟨nd,by simp,fun a ha b hb z=>hx (by rw [List.mem_singleton.mp hb] at z; rw [<-z]; exact ha)⟩,fun y hy=>by
  rcases List.mem_append.mp hy with hy | hy
  ·exact sub y hy
  ·rw [List.mem_singleton.mp hy]; exact hu,fun y hy=>List.mem_append_left _ hy⟩
theorem go_told {F U:List Sq} {s:Sq} {h:Hs} {rec:Sq->Hs->List Sq->Option (Bool × Hs × List Sq)} (hk:Hok F h)
  {n:Nat} (ih:∀ y x t,(x,y) ∈ h->t.Nodup->(∀ x ∈ t,x ∈ U)->U.length < n + t.length->Told F U y (nbL F y) h t (rec y h t)) :
  ∀ (ns:List Sq) (t:List Sq),(∀ x ∈ ns,x ∈ nbL F s)->(∀ x ∈ ns,x ∈ U)->t.Nodup->(∀ x ∈ t,x ∈ U)->U.length < n + 1 + t.length->Told F U s ns h t (fpGo rec s ns h t)
 | [],t,_,_,nd,sub,_=>⟨false,h,t,rfl,⟨nd,sub,fun _ z=>z⟩,fun z=>(by cases z),fun _=>⟨rfl,fun x hx=>(by cases hx),fun x hx=>.inl hx⟩⟩
 | x :: r,t,hn,hu,nd,sub,hl=>by
  unfold fpGo
  by_cases hx:x ∈ t
  ·rw [if_pos hx]
   obtain ⟨b,h',t',e,k,f1,f2⟩:=go_told hk ih r t (fun y hy=>hn y (List.mem_cons_of_mem _ hy)) (fun y hy=>hu y (List.mem_cons_of_mem _ hy)) nd sub hl
   refine ⟨b,h',t',e,k,f1,fun z=>?_⟩
   obtain ⟨g1,g2,g3⟩:=f2 z
   refine ⟨g1,fun y hy=>?_,g3⟩
   rcases List.mem_cons.mp hy with rfl | hy
   ·exact k.up y hx
   ·exact g2 y hy
  ·rw [if_neg hx]
   have k1:=tok_snoc nd sub hx (hu x List.mem_cons_self)
   cases e:hget h x with
   | none =>
    refine ⟨true,_,_,rfl,k1,fun _=>⟨⟨hput_keys hk.nd,fun p hp=>?_⟩,fun q hq=>hget_put_ne fun z=>hx (by rw [<-z]; exact hq),?_⟩,fun z=>(by cases z)⟩
    ·rcases hput_mem hp with hp | rfl
     ·exact hk.adj p hp
     ·exact hn x List.mem_cons_self
    ·rw [hput_new e,List.map_append]
     exact List.perm_append_comm
   | some y =>
    have hxy:=hget_mem e
    obtain ⟨b,h',t',e2,k2,f1,f2⟩:=ih y x (t++[x]) hxy k1.nd k1.sub (by rw [List.length_append,List.length_singleton]; omega)
    dsimp only
    rw [e2]
    have k3:Tok U t t':=⟨k2.nd,k2.sub,fun q hq=>k2.up q (k1.up q hq)⟩
    cases b with
    | true =>
     obtain ⟨g1,g2,g3⟩:=f1 rfl
     have ex:hget h' x=some y:=by rw [g2 x (by simp),e]
     refine ⟨true,_,_,rfl,k3,fun _=>⟨⟨hput_keys g1.nd,fun p hp=>?_⟩,fun q hq=>?_,?_⟩,fun z=>(by cases z)⟩
     ·rcases hput_mem hp with hp | rfl
      ·exact g1.adj p hp
      ·exact hn x List.mem_cons_self
     ·rw [hget_put_ne fun z=>hx (by rw [<-z]; exact hq)]
      exact g2 q (List.mem_append_left _ hq)
     ·rw [hput_old ex]
      have v:=vals_old (y:=s) g1.nd (hget_mem ex)
      have v2:=v.trans (g3.cons s)
      exact List.Perm.cons_inv (v2.trans (List.Perm.swap _ _ _))
    | false =>
     obtain ⟨rfl,g2,g3⟩:=f2 rfl
     have hl':U.length < n + 1 + t'.length:=by have:=k3.le nd; omega
     obtain ⟨b,h'',t'',e3,k4,f3,f4⟩:=go_told hk ih r t' (fun y hy=>hn y (List.mem_cons_of_mem _ hy)) (fun y hy=>hu y (List.mem_cons_of_mem _ hy)) k2.nd k2.sub hl'
     refine ⟨b,h'',t'',e3,⟨k4.nd,k4.sub,fun q hq=>k4.up q (k3.up q hq)⟩,fun z=>?_,fun z=>?_⟩
     ·obtain ⟨a1,a2,a3⟩:=f3 z
      exact ⟨a1,fun q hq=>a2 q (k3.up q hq),a3⟩
     ·obtain ⟨a1,a2,a3⟩:=f4 z
      have xt:x ∈ t'':=k4.up x (k2.up x (by simp))
      refine ⟨a1,fun q hq=>?_,fun q hq=>?_⟩
      ·rcases List.mem_cons.mp hq with rfl | hq
       ·exact xt
       ·exact a2 q hq
      ·rcases a3 q hq with a | a
       ·rcases g3 q a with c | ⟨w,c1,c2⟩
        ·rcases List.mem_append.mp c with c | c
         ·exact .inl c
         ·rw [List.mem_singleton.mp c]
          exact .inr ⟨y,e,fun z hz=>k4.up z (g2 z hz)⟩
        ·exact .inr ⟨w,c1,fun z hz=>k4.up z (c2 z hz)⟩
       ·exact .inr a
theorem fp_told {F U:List Sq}:∀ (n:Nat) (s:Sq) (h:Hs) (t:List Sq),Hok F h->(∀ x ∈ nbL F s,x ∈ U)->(∀ p ∈ h,∀ x ∈ nbL F p.2,x ∈ U)->t.Nodup->(∀ x ∈ t,x ∈ U)->U.length < n + t.length->Told F U s (nbL F s) h t (fp F n s h t)
 | 0,s,h,t,_,_,_,nd,sub,hl=>absurd (nodup_len nd sub) (by omega)
 | n + 1,s,h,t,hk,hs,hv,nd,sub,hl=>go_told hk (n:=n) (fun y x t m nd sub hl=>fp_told n y h t hk (hv _ m) hv nd sub hl) (nbL F s) t (fun _ z=>z) hs nd sub (by omega)
end M

set_option Elab.async false
set_option linter.all false
namespace M
open PySem PySem.Spec PyProof.Rows L2 Ma
noncomputable def half (F:List Sq) (p:Int):List Sq:=F.filter fun s=>decide ((s.1 + s.2) % 2=p)
theorem mem_half {F:List Sq} {p:Int} {s:Sq}:s ∈ half F p ↔ s ∈ F/\(s.1 + s.2) % 2=p:=by
 unfold half; rw [List.mem_filter]; simp
theorem mem_nbL {F:List Sq} {s x:Sq}:x ∈ nbL F s ↔ x ∈ F/\(x=(s.1 - 1,s.2)\/x=(s.1,s.2 - 1)\/x=(s.1,s.2 + 1)\/x=(s.1 + 1,s.2)):=by
 unfold nbL
 rw [List.mem_filter]
 simp only [List.mem_cons,List.not_mem_nil,or_false,decide_eq_true_eq]
 exact And.comm
theorem nb_half {F:List Sq} {s x:Sq} (h:x ∈ nbL F s):x ∈ half F (1 - (s.1 + s.2) % 2):=by
 obtain ⟨h1,h2⟩:=mem_nbL.mp h
 refine mem_half.mpr ⟨h1,?_⟩
 rcases h2 with rfl | rfl | rfl | rfl<;>simp only<;>omega
noncomputable def fo (x y:Sq):Fl:=((if Slt y x then y else x).1,(if Slt y x then y else x).2,if x.1=y.1 then 0 else 1)
instance (a b:Sq):Decidable (Slt a b):=by unfold Slt; exact inferInstance
theorem fo_cells {F:List Sq} {x y:Sq} (h:x ∈ nbL F y):(cells (fo x y)).Perm [x,y]/\((fo x y).2.2=0\/(fo x y).2.2=1):=by
 obtain ⟨h1,h2⟩:=mem_nbL.mp h
 rcases y with ⟨a,b⟩
 unfold fo cells pos2 mate Slt
 rcases h2 with rfl | rfl | rfl | rfl
 ·have e1:¬ (a < a - 1\/(a=a - 1/\b < b)):=by omega
  have e2:¬ (a - 1=a):=by omega
  simp only [e1,e2,if_false]
  refine ⟨?_,by simp⟩
  rw [show a - 1 + 1=a by omega]
  exact List.Perm.refl _
 ·have e1:¬ (a < a\/(True/\b < b - 1)):=by omega
  simp only [e1,if_false,if_true,true_and]
  refine ⟨?_,by simp⟩
  have e3:¬ (a < a\/b < b - 1):=by omega
  simp only [e3,if_false]
  rw [show b - 1 + 1=b by omega]
 ·have e1:(a < a\/(True/\b < b + 1)):=.inr ⟨trivial,by omega⟩
  simp only [e1,if_true]
  exact ⟨List.Perm.swap _ _ _,by simp⟩
 ·have e1:(a < a + 1\/(a=a + 1/\b < b)):=by omega
  have e2:¬ (a + 1=a):=by omega
  simp only [e1,e2,if_true,if_false]
  exact ⟨List.Perm.swap _ _ _,by simp⟩
theorem cover_fo {F:List Sq}:∀ (h:Hs),(∀ p ∈ h,p.1 ∈ nbL F p.2)->(cover (h.map fun p=>fo p.1 p.2)).Perm (h.map (·.1)++h.map (·.2))
 | [],_=>List.Perm.refl _
 | p :: r,ha=>by
  have ih:=cover_fo r fun q hq=>ha q (List.mem_cons_of_mem _ hq)
  have e:=(fo_cells (ha p List.mem_cons_self)).1
  show (cells (fo p.1 p.2)++cover (r.map fun p=>fo p.1 p.2)).Perm (p.1 :: r.map (·.1)++p.2 :: r.map (·.2))
  refine (e.append ih).trans ?_
  show (p.1 :: p.2 :: (r.map (·.1)++r.map (·.2))).Perm (p.1 :: (r.map (·.1)++p.2 :: r.map (·.2)))
  exact List.Perm.cons _ List.perm_middle.symm
theorem perm_full {l1 l2:List Sq} (h1:l1.Nodup) (h2:l2.Nodup) (sub:∀ x ∈ l1,x ∈ l2) (hl:l2.length<=l1.length):l1.Perm l2:=by
 refine (List.perm_ext_iff_of_nodup h1 h2).mpr fun x=>⟨sub x,fun hx=>?_⟩
 apply Classical.byContradiction
 intro hn
 have:=nodup_len (l1:=x :: l1) (l2:=l2) (List.nodup_cons.mpr ⟨hn,h1⟩) fun y hy=>by
  rcases List.mem_cons.mp hy with rfl | hy
  ·exact hx
  ·exact sub y hy
 rw [List.length_cons] at this
 omega
theorem halves (F:List Sq) (p:Int) (hp:p=0\/p=1):(half F (1 - p)++half F p).Perm F:=by
 have e:half F (1 - p)=F.filter fun s=>!(decide ((s.1 + s.2) % 2=p)):=by
  unfold half
  refine List.filter_congr fun s _=>?_
  by_cases h:(s.1 + s.2) % 2=p
  ·simp only [h,decide_true,Bool.not_true]; exact decide_eq_false (by omega)
  ·simp only [h,decide_false,Bool.not_false]; exact decide_eq_true (by omega)
 rw [e]
 exact List.perm_append_comm.trans (List.filter_append_perm _ F)
theorem half_nodup {F:List Sq} (h:F.Nodup) (p:Int):(half F p).Nodup:=h.sublist List.filter_sublist
theorem laid_lay {F:List Sq} (hF:IsFloor F) {p:Int} (hp:p=0\/p=1) (hl:(half F (1 - p)).length<=(half F p).length) {h:Hs} (hk:Hok F h) (hv:(h.map (·.2)).Perm (half F p)):Lay F (sortF (h.map fun q=>fo q.1 q.2)):=by
 have nF:=nodup_of_sorted hF.ord
 have ks:(h.map (·.1)).Perm (half F (1 - p)):=by
  refine perm_full hk.nd (half_nodup nF _) (fun x hx=>?_) ?_
  ·obtain ⟨q,hq,rfl⟩:=List.mem_map.mp hx
   have hy:q.2 ∈ half F p:=hv.mem_iff.mp (List.mem_map.mpr ⟨q,hq,rfl⟩)
   have:=nb_half (hk.adj q hq)
   rwa [(mem_half.mp hy).2] at this
  ·have:=hv.length_eq
   rw [List.length_map] at this ⊢
   omega
 have cv:(cover (h.map fun q=>fo q.1 q.2)).Perm F:=(cover_fo h hk.adj).trans ((ks.append hv).trans (halves F p hp))
 refine ⟨ord_of (cv.nodup_iff.mpr nF),fun f hf=>?_,(cover_perm (sortF_perm _)).trans cv⟩
 obtain ⟨q,hq,rfl⟩:=List.mem_map.mp ((sortF_perm _).mem_iff.mp hf)
 exact (fo_cells (hk.adj q hq)).2
structure Wall (F W:List Sq):Prop where
 srt:W.Pairwise Slt
 ne:W ≠ []
 sub:∀ s ∈ W,s ∈ F
 par:∃ p,∀ s ∈ W,(s.1 + s.2) % 2=p
 few:∃ T:List Sq,(∀ s ∈ W,∀ z ∈ nbL F s,z ∈ T)/\T.length < W.length
noncomputable def heldBy (h:Hs) (x:Sq):Sq:=(hget h x).getD x
theorem snd_inj:∀ {h:Hs},(h.map (·.2)).Nodup->∀ {p q:Sq × Sq},p ∈ h->q ∈ h->p.2=q.2->p=q
 | [],_,_,_,hp,_,_=>by cases hp
 | a :: r,nd,p,q,hp,hq,e=>by
  rw [List.map_cons,List.nodup_cons] at nd
  rcases List.mem_cons.mp hp with e1 | hp'
  ·rcases List.mem_cons.mp hq with e2 | hq'
   ·rw [e1,e2]
   ·exact absurd (List.mem_map.mpr ⟨q,hq',by rw [<-e,e1]⟩) nd.1
  ·rcases List.mem_cons.mp hq with e2 | hq'
   ·exact absurd (List.mem_map.mpr ⟨p,hp',by rw [e,e2]⟩) nd.1
   ·exact snd_inj nd.2 hp' hq' e
theorem wall_ok {F:List Sq} (hF:IsFloor F) {p:Int} {s:Sq} (hs:s ∈ half F p) {h:Hs} {t:List Sq} (nv:(s :: h.map (·.2)).Nodup) (sv:∀ y ∈ h.map (·.2),y ∈ half F p) (nt:t.Nodup) (all:∀ x ∈ nbL F s,x ∈ t) (cls:∀ x ∈ t,∃ y,hget h x=some y/\∀ z ∈ nbL F y,z ∈ t) :
  Wall F (sortS (s :: t.map (heldBy h)))/\(s :: t.map (heldBy h)).length=t.length + 1:=by
 have hb:∀ x ∈ t,(x,heldBy h x) ∈ h/\∀ z ∈ nbL F (heldBy h x),z ∈ t:=fun x hx=>by
  obtain ⟨y,e,c⟩:=cls x hx
  unfold heldBy
  rw [e]
  exact ⟨hget_mem e,c⟩
 rw [List.nodup_cons] at nv
 have nW:(s :: t.map (heldBy h)).Nodup:=by
  refine List.nodup_cons.mpr ⟨fun hm=>?_,?_⟩
  ·obtain ⟨x,hx,e⟩:=List.mem_map.mp hm
   exact nv.1 (List.mem_map.mpr ⟨_,(hb x hx).1,e⟩)
  ·refine List.pairwise_map.mpr (List.Pairwise.imp_of_mem (fun {a b} ha hb' hab e=>?_) nt)
   have:=snd_inj nv.2 (hb a ha).1 (hb b hb').1 e
   exact hab (congrArg Prod.fst this)
 have mem:∀ y ∈ sortS (s :: t.map (heldBy h)),y=s\/∃ x ∈ t,heldBy h x=y:=fun y hy=>by
  rcases List.mem_cons.mp ((sortS_perm _).mem_iff.mp hy) with e | hy
  ·exact .inl e
  ·exact .inr (List.mem_map.mp hy)
 have inh:∀ y ∈ sortS (s :: t.map (heldBy h)),y ∈ half F p:=fun y hy=>by
  rcases mem y hy with rfl | ⟨x,hx,rfl⟩
  ·exact hs
  ·exact sv _ (List.mem_map.mpr ⟨_,(hb x hx).1,rfl⟩)
 have len:(sortS (s :: t.map (heldBy h))).length=t.length + 1:=by
  rw [(sortS_perm _).length_eq]; simp
 refine ⟨⟨sortS_strict nW,fun z=>?_,fun y hy=>(mem_half.mp (inh y hy)).1,⟨p,fun y hy=>(mem_half.mp (inh y hy)).2⟩,t,fun y hy=>?_,by omega⟩,by simp⟩
 ·rw [z] at len; simp at len
 ·rcases mem y hy with rfl | ⟨x,hx,rfl⟩
  ·exact all
  ·exact (hb x hx).2
end M

set_option Elab.async false
set_option linter.all false
set_option maxRecDepth 100000
namespace M
open PySem PySem.Spec PyProof.Rows L2
noncomputable def m_on_board:EX:=xRet (eAnd (eCh fLe fLtI (kE (.int 0)) (e2 fIx (vE 0) (kE (.int 0))) (kE (.int 8))) (eCh fLe fLtI (kE (.int 0)) (e2 fIx (vE 0) (kE (.int 1))) (kE (.int 8))))
noncomputable def dn_on_board:List D->R D:=den 1 m_on_board
noncomputable def b_check_floor_1:EX:=xIf (bNot (tstB (eCall 1 dn_on_board (aCons (vF 1) (aNil))))) (xNever) (xNil)
noncomputable def b_check_floor_2:EX:=xIf (bNot (tstB (e2 fLt (vE 2) (vE 3)))) (xNever) (xNil)
noncomputable def m_check_floor:EX:=xSeq (xFor (iD (vF 0)) (gN 1) (b_check_floor_1)) (xFor (iZ (vF 0) (eSl (vE 0) (oPart (kE (.int 1))) (oNone))) (gT 2 3) (b_check_floor_2))
noncomputable def dn_check_floor:List D->R D:=den 4 m_check_floor
noncomputable def m_marked:EX:=xRet (e1 fDict (eComp [1] (gN 1) (iD (vF 0)) (tTrue) (eTup (aCons (vF 1) (aCons (kE (.bl true)) (aNil))))))
noncomputable def dn_marked:List D->R D:=den 2 m_marked
noncomputable def m_neighbours:EX:=xSeq (xSet 2 (e2 fIx (vE 0) (kE (.int 0)))) (xSeq (xSet 3 (e2 fIx (vE 0) (kE (.int 1)))) (xSeq (xSet 4 (eLst (aCons (eTup (aCons (e2 fSub (vE 2) (kE (.int 1))) (aCons (vF 3) (aNil)))) (aCons (eTup (aCons (vF 2) (aCons (e2 fSub (vE 3) (kE (.int 1))) (aNil)))) (aCons (eTup (aCons (vF 2) (aCons (e2 fAdd (vE 3) (kE (.int 1))) (aNil)))) (aCons (eTup (aCons (e2 fAdd (vE 2) (kE (.int 1))) (aCons (vF 3) (aNil)))) (aNil))))))) (xRet (eComp [5] (gN 5) (iD (vF 4)) (tstB (e2 fDin (vE 5) (vE 1))) (vF 5)))))
noncomputable def dn_neighbours:List D->R D:=den 6 m_neighbours
noncomputable def m_half_of:EX:=xRet (eComp [2] (gN 2) (iD (vF 0)) (tstB (e2 fEq (e2 fMod (e2 fAdd (e2 fIx (vE 2) (kE (.int 0))) (e2 fIx (vE 2) (kE (.int 1)))) (kE (.int 2))) (vE 1))) (vF 2))
noncomputable def dn_half_of:List D->R D:=den 3 m_half_of
noncomputable def m_larger_half:EX:=xSeq (xSet 1 (eCall 2 dn_half_of (aCons (vF 0) (aCons (kE (.int 0)) (aNil))))) (xSeq (xSet 2 (eCall 2 dn_half_of (aCons (vF 0) (aCons (kE (.int 1)) (aNil))))) (xRet (eIf (tstB (e2 fGe (e1 fLen (vE 1)) (e1 fLen (vE 2)))) (vF 1) (vF 2))))
noncomputable def dn_larger_half:List D->R D:=den 3 m_larger_half
noncomputable def b_finds_partner_1 (rec:List D->Kvs->Kvs->R (D × Kvs × Kvs)):EX:=xIf (tstB (e2 fDnotIn (vE 4) (vE 3))) (xSeq (xDput 3 (vE 4) (kE (.bl true))) (xIfC (cOr (tstB (e2 fDnotIn (vE 4) (vE 2))) (callQ 2 3 4 rec (aCons (e2 fDget (vE 2) (vE 4)) (aCons (vF 1) (aOwn2 2 3))))) (xSeq (xDput 2 (vE 4) (vF 0)) (xRetQ 2 (kE (.bl true)))) (xNil))) (xNil)
noncomputable def m_finds_partner (rec:List D->Kvs->Kvs->R (D × Kvs × Kvs)):EX:=xSeq (xFor (iD (eCall 2 dn_neighbours (aCons (vF 0) (aCons (vF 1) (aNil))))) (gN 4) (b_finds_partner_1 rec)) (xRetQ 2 (kE (.bl false)))
noncomputable def dnf_finds_partner:Nat->List D->Kvs->Kvs->R (D × Kvs × Kvs)
 | 0=>fun _ _ _=>.no
 | n + 1=>denQ 5 (m_finds_partner (dnf_finds_partner n))
noncomputable def dn_finds_partner:List D->Kvs->Kvs->R (D × Kvs × Kvs):=dnf_finds_partner 34
noncomputable def m_wall_from:EX:=xRet (e1 fSort (e2 fAdd (eLst (aCons (vF 0) (aNil))) (eComp [3] (gN 3) (iK (vF 2)) (tTrue) (e2 fDget (vE 1) (vE 3)))))
noncomputable def dn_wall_from:List D->R D:=den 4 m_wall_from
noncomputable def m_flag_over:EX:=xSeq (xSet 2 (e2 fMinT (vE 0) (vE 1))) (xRet (eTup (aCons (e2 fIx (vE 2) (kE (.int 0))) (aCons (e2 fIx (vE 2) (kE (.int 1))) (aCons (eIf (tstB (e2 fEq (e2 fIx (vE 0) (kE (.int 0))) (e2 fIx (vE 1) (kE (.int 0))))) (kE (.int 0)) (kE (.int 1))) (aNil))))))
noncomputable def dn_flag_over:List D->R D:=den 3 m_flag_over
noncomputable def b_lay_1:EX:=xSeq (xOwn 4 (kE (.dic []))) (xIfC (cNot (callQ 2 4 4 dn_finds_partner (aCons (vF 3) (aCons (vF 1) (aOwn2 2 4))))) (xFrz 4 (xFrz 2 (xRet (eTup (aCons (kE (.str "wall")) (aCons (eCall 3 dn_wall_from (aCons (vF 3) (aCons (vF 2) (aCons (vF 4) (aNil))))) (aNil))))))) (xNil))
noncomputable def m_lay:EX:=xSeq (xDo (eCall 1 dn_check_floor (aCons (vF 0) (aNil)))) (xSeq (xSet 1 (eCall 1 dn_marked (aCons (vF 0) (aNil)))) (xSeq (xOwn 2 (kE (.dic []))) (xSeq (xFor (iD (eCall 1 dn_larger_half (aCons (vF 0) (aNil)))) (gN 3) (b_lay_1)) (xFrz 2 (xRet (eTup (aCons (kE (.str "laid")) (aCons (e1 fSort (eComp [5,3] (gT 5 3) (iDi (vF 2)) (tTrue) (eCall 2 dn_flag_over (aCons (vF 5) (aCons (vF 3) (aNil)))))) (aNil)))))))))
noncomputable def dn_lay:List D->R D:=den 6 m_lay
noncomputable def m_law_cell_at:EX:=xSeq (xIf (tstB (e2 fLt (vE 1) (e1 fLen (vE 0)))) (xRet (e2 fIx (vE 0) (vE 1))) (xNil)) (xRet (kE (.int 0)))
noncomputable def dn_law_cell_at:List D->R D:=den 2 m_law_cell_at
noncomputable def b_law_floor_1:EX:=xSeq (xSet 7 (e2 fMod (e2 fMul (vE 7) (kE (.int 48271))) (kE (.int 2147483647)))) (xIf (tstB (e2 fGt (e2 fMod (e2 fDiv (vE 7) (kE (.int 7))) (vE 6)) (kE (.int 0)))) (xApp 8 (eTup (aCons (e2 fAdd (vE 4) (e2 fDiv (vE 9) (vE 3))) (aCons (e2 fAdd (vE 5) (e2 fMod (vE 9) (vE 3))) (aNil))))) (xNil))
noncomputable def m_law_floor:EX:=xSeq (xSet 1 (eCall 2 dn_law_cell_at (aCons (vF 0) (aCons (kE (.int 0)) (aNil))))) (xSeq (xSet 2 (e2 fAdd (kE (.int 1)) (e2 fMod (vE 1) (kE (.int 8))))) (xSeq (xSet 3 (e2 fAdd (kE (.int 1)) (e2 fMod (e2 fDiv (vE 1) (kE (.int 8))) (kE (.int 8))))) (xSeq (xSet 4 (e2 fMod (e2 fDiv (vE 1) (kE (.int 64))) (e2 fSub (kE (.int 9)) (vE 2)))) (xSeq (xSet 5 (e2 fMod (e2 fDiv (vE 1) (kE (.int 512))) (e2 fSub (kE (.int 9)) (vE 3)))) (xSeq (xSet 6 (e2 fIx (eLst (aCons (kE (.int 4)) (aCons (kE (.int 4)) (aCons (kE (.int 8)) (aNil))))) (e2 fMod (eCall 2 dn_law_cell_at (aCons (vF 0) (aCons (kE (.int 2)) (aNil)))) (kE (.int 3))))) (xSeq (xSet 7 (e2 fAdd (kE (.int 1)) (e2 fMod (eCall 2 dn_law_cell_at (aCons (vF 0) (aCons (kE (.int 1)) (aNil)))) (kE (.int 2147483646))))) (xSeq (xOwn 8 (eLst (aNil))) (xSeq (xFor (iR1 (e2 fMul (vE 2) (vE 3))) (gN 9) (b_law_floor_1)) (xFrz 8 (xRet (vF 8)))))))))))
noncomputable def dn_law_floor:List D->R D:=den 10 m_law_floor
noncomputable def b_law_even_1:EX:=xSeq (xSet 6 (e2 fMod (e2 fAdd (e2 fIx (vE 1) (kE (.int 0))) (e2 fIx (vE 1) (kE (.int 1)))) (kE (.int 2)))) (xSeq (xLput 4 (vE 6) (e2 fAdd (e2 fIx (vE 4) (vE 6)) (kE (.int 1)))) (xIf (tstB (e2 fLe (e2 fIx (vE 4) (vE 6)) (vE 3))) (xApp 5 (vF 1)) (xNil)))
noncomputable def m_law_even:EX:=xSeq (xSet 2 (e1 fLen (eComp [1] (gN 1) (iD (vF 0)) (tstB (e2 fEq (e2 fMod (e2 fAdd (e2 fIx (vE 1) (kE (.int 0))) (e2 fIx (vE 1) (kE (.int 1)))) (kE (.int 2))) (kE (.int 0)))) (vF 1)))) (xSeq (xSet 3 (e2 fMin (vE 2) (e2 fSub (e1 fLen (vE 0)) (vE 2)))) (xSeq (xOwn 4 (eLst (aCons (kE (.int 0)) (aCons (kE (.int 0)) (aNil))))) (xSeq (xOwn 5 (eLst (aNil))) (xSeq (xFor (iD (vF 0)) (gN 1) (b_law_even_1)) (xFrz 5 (xRet (vF 5)))))))
noncomputable def dn_law_even:List D->R D:=den 7 m_law_even
noncomputable def b_law_places_2:EX:=xIf (bOr (bNot (tstB (e1 (fIsi .int) (vE 3)))) (tstB (e1 (fIsi .bool) (vE 3)))) (xRet (kE (.bl false))) (xNil)
noncomputable def b_law_places_1:EX:=xSeq (xIf (bOr (bNot (tstB (e1 (fIsi .tuple) (vE 2)))) (tstB (e2 fNe (e1 fLen (vE 2)) (vE 1)))) (xRet (kE (.bl false))) (xNil)) (xFor (iT (vF 2)) (gN 3) (b_law_places_2))
noncomputable def m_law_places:EX:=xSeq (xIf (bNot (tstB (e1 (fIsi .list) (vE 0)))) (xRet (kE (.bl false))) (xNil)) (xSeq (xFor (iD (vF 0)) (gN 2) (b_law_places_1)) (xRet (kE (.bl true))))
noncomputable def dn_law_places:List D->R D:=den 4 m_law_places
noncomputable def b_law_fits_1:EX:=xSeq (xSet 4 (e2 fIx (e2 fIx (vE 1) (vE 3)) (kE (.int 0)))) (xSeq (xSet 5 (e2 fIx (e2 fIx (vE 1) (vE 3)) (kE (.int 1)))) (xSeq (xSet 6 (e2 fIx (e2 fIx (vE 1) (vE 3)) (kE (.int 2)))) (xSeq (xIf (bOr (bAnd (tstB (e2 fNe (vE 6) (kE (.int 0)))) (tstB (e2 fNe (vE 6) (kE (.int 1))))) (bAnd (tstB (e2 fGt (vE 3) (kE (.int 0)))) (tstB (e2 fGe (eSl (e2 fIx (vE 1) (e2 fSub (vE 3) (kE (.int 1)))) (oNone) (oPart (kE (.int 2)))) (eSl (e2 fIx (vE 1) (vE 3)) (oNone) (oPart (kE (.int 2)))))))) (xRet (kE (.bl false))) (xNil)) (xSet 2 (e2 fAdd (vE 2) (eLst (aCons (eTup (aCons (vF 4) (aCons (vF 5) (aNil)))) (aCons (eTup (aCons (e2 fAdd (vE 4) (vE 6)) (aCons (e2 fSub (e2 fAdd (vE 5) (kE (.int 1))) (vE 6)) (aNil)))) (aNil)))))))))
noncomputable def m_law_fits:EX:=xSeq (xSet 2 (eLst (aNil))) (xSeq (xFor (iR1 (e1 fLen (vE 1))) (gN 3) (b_law_fits_1)) (xRet (e2 fEq (e1 fSort (vE 2)) (vE 0))))
noncomputable def dn_law_fits:List D->R D:=den 7 m_law_fits
noncomputable def b_law_is_fence_2:EX:=xIf (tstB (e2 fIn (vE 6) (vE 0))) (xDput 2 (vE 6) (kE (.bl true))) (xNil)
noncomputable def b_law_is_fence_1:EX:=xSeq (xSet 4 (e2 fIx (e2 fIx (vE 1) (vE 3)) (kE (.int 0)))) (xSeq (xSet 5 (e2 fIx (e2 fIx (vE 1) (vE 3)) (kE (.int 1)))) (xSeq (xIf (bOr (tstB (e2 fNotIn (e2 fIx (vE 1) (vE 3)) (vE 0))) (bAnd (tstB (e2 fGt (vE 3) (kE (.int 0)))) (tstB (e2 fGe (e2 fIx (vE 1) (e2 fSub (vE 3) (kE (.int 1)))) (e2 fIx (vE 1) (vE 3)))))) (xRet (kE (.bl false))) (xNil)) (xSeq (xIf (tstB (e2 fNe (e2 fMod (e2 fAdd (vE 4) (vE 5)) (kE (.int 2))) (e2 fMod (e2 fAdd (e2 fIx (e2 fIx (vE 1) (kE (.int 0))) (kE (.int 0))) (e2 fIx (e2 fIx (vE 1) (kE (.int 0))) (kE (.int 1)))) (kE (.int 2))))) (xRet (kE (.bl false))) (xNil)) (xFor (iD (eLst (aCons (eTup (aCons (e2 fSub (vE 4) (kE (.int 1))) (aCons (vF 5) (aNil)))) (aCons (eTup (aCons (e2 fAdd (vE 4) (kE (.int 1))) (aCons (vF 5) (aNil)))) (aCons (eTup (aCons (vF 4) (aCons (e2 fSub (vE 5) (kE (.int 1))) (aNil)))) (aCons (eTup (aCons (vF 4) (aCons (e2 fAdd (vE 5) (kE (.int 1))) (aNil)))) (aNil))))))) (gN 6) (b_law_is_fence_2)))))
noncomputable def m_law_is_fence:EX:=xSeq (xOwn 2 (kE (.dic []))) (xSeq (xFor (iR1 (e1 fLen (vE 1))) (gN 3) (b_law_is_fence_1)) (xRet (e2 fLt (e1 fLen (vE 2)) (e1 fLen (vE 1)))))
noncomputable def dn_law_is_fence:List D->R D:=den 7 m_law_is_fence
noncomputable def m_law:EX:=xSeq (xSet 1 (eCall 1 dn_law_floor (aCons (vF 0) (aNil)))) (xSeq (xIf (tstB (e2 fEq (e2 fMod (eCall 2 dn_law_cell_at (aCons (vF 0) (aCons (kE (.int 3)) (aNil)))) (kE (.int 3))) (kE (.int 1)))) (xSet 1 (eCall 1 dn_law_even (aCons (vF 1) (aNil)))) (xNil)) (xSeq (xSet 2 (e1 fList (vE 1))) (xSeq (xSet 3 (eCall 1 dn_lay (aCons (vF 2) (aNil)))) (xSeq (xIf (bOr (tstB (e2 fNe (vE 2) (vE 1))) (bOr (bNot (tstB (e1 (fIsi .tuple) (vE 3)))) (tstB (e2 fNe (e1 fLen (vE 3)) (kE (.int 2)))))) (xRet (kE (.bl false))) (xNil)) (xSeq (xIf (tstB (e2 fEq (e2 fIx (vE 3) (kE (.int 0))) (kE (.str "laid")))) (xRet (eAnd (eCall 2 dn_law_places (aCons (e2 fIx (vE 3) (kE (.int 1))) (aCons (kE (.int 3)) (aNil)))) (eCall 2 dn_law_fits (aCons (vF 1) (aCons (e2 fIx (vE 3) (kE (.int 1))) (aNil)))))) (xNil)) (xRet (eAnd (e2 fEq (e2 fIx (vE 3) (kE (.int 0))) (kE (.str "wall"))) (eAnd (eCall 2 dn_law_places (aCons (e2 fIx (vE 3) (kE (.int 1))) (aCons (kE (.int 2)) (aNil)))) (eCall 2 dn_law_is_fence (aCons (vF 1) (aCons (e2 fIx (vE 3) (kE (.int 1))) (aNil))))))))))))
noncomputable def dn_law:List D->R D:=den 4 m_law
end M

set_option Elab.async false
set_option linter.all false
set_option maxHeartbeats 1000000
namespace M
open PySem PySem.Spec PyProof.Rows L2 Ma
theorem seq_nx {m n:EX} {E E':Ev} {r:R Out} (h:m E=.ok (.nx E')) (h2:n E'=r):xSeq m n E=r:=by
 unfold xSeq; rw [h]; exact h2
theorem seq_rt {m n:EX} {E:Ev} {d:D} (h:m E=.ok (.rt d)):xSeq m n E=.ok (.rt d):=by
 unfold xSeq; rw [h]; rfl
theorem seqP {m n:EX} {E:Ev} (E':Ev) (P:R Out->Prop) (h:m E=.ok (.nx E')) (h2:P (n E')):P (xSeq m n E):=by
 unfold xSeq; rw [h]; exact h2
theorem lay_len {F:List Sq} {L:List Fl} (h:Lay F L) (hl:F.length < 64):L.length < 32:=by
 have:(cover L).length=2 * L.length:=by
  unfold cover; rw [List.length_flatMap]; simp only [cells,List.length_cons,List.length_nil,List.map_const',List.sum_replicate_nat]; omega
 have:=h.cov.length_eq
 omega
theorem set_ok {i:Nat} {m:EV} {E:Ev} {d:D} (h:m E=.ok d):xSet i m E=.ok (.nx (E.set i (.fz d))):=by
 unfold xSet; rw [h]; rfl
theorem if_nil {t:Ev->R Bool} {a:EX} {E:Ev} (h:t E=.ok false):xIf t a xNil E=.ok (.nx E):=by
 unfold xIf; rw [h]; rfl
theorem or_ff {s t:Ev->R Bool} {E:Ev} (h:s E=.ok false) (h':t E=.ok false):bOr s t E=.ok false:=by
 unfold bOr; rw [h]; exact h'
theorem not_ff {t:Ev->R Bool} {E:Ev} (h:t E=.ok true):bNot t E=.ok false:=by
 unfold bNot; rw [h]; rfl
theorem tst_ok {m:EV} {E:Ev} {b:Bool} (h:m E=.ok (.bl b)):tstB m E=.ok b:=by
 unfold tstB; rw [h]; rfl
@[simp high] theorem vE_f0 (d:D) (r:Ev):vE 0 (.fz d :: r)=.ok d:=rfl
@[simp high] theorem vE_o0 (d:D) (r:Ev):vE 0 (.ow d :: r)=.ok d:=rfl
@[simp high] theorem vF_f0 (d:D) (r:Ev):vF 0 (.fz d :: r)=.ok d:=rfl
@[simp high] theorem vE_f1 (x0:Sl) (d:D) (r:Ev):vE 1 (x0 :: .fz d :: r)=.ok d:=rfl
@[simp high] theorem vE_o1 (x0:Sl) (d:D) (r:Ev):vE 1 (x0 :: .ow d :: r)=.ok d:=rfl
@[simp high] theorem vF_f1 (x0:Sl) (d:D) (r:Ev):vF 1 (x0 :: .fz d :: r)=.ok d:=rfl
@[simp high] theorem vE_f2 (x0 x1:Sl) (d:D) (r:Ev):vE 2 (x0 :: x1 :: .fz d :: r)=.ok d:=rfl
@[simp high] theorem vE_o2 (x0 x1:Sl) (d:D) (r:Ev):vE 2 (x0 :: x1 :: .ow d :: r)=.ok d:=rfl
@[simp high] theorem vF_f2 (x0 x1:Sl) (d:D) (r:Ev):vF 2 (x0 :: x1 :: .fz d :: r)=.ok d:=rfl
@[simp high] theorem vE_f3 (x0 x1 x2:Sl) (d:D) (r:Ev):vE 3 (x0 :: x1 :: x2 :: .fz d :: r)=.ok d:=rfl
@[simp high] theorem vE_o3 (x0 x1 x2:Sl) (d:D) (r:Ev):vE 3 (x0 :: x1 :: x2 :: .ow d :: r)=.ok d:=rfl
@[simp high] theorem vF_f3 (x0 x1 x2:Sl) (d:D) (r:Ev):vF 3 (x0 :: x1 :: x2 :: .fz d :: r)=.ok d:=rfl
@[simp high] theorem vE_f4 (x0 x1 x2 x3:Sl) (d:D) (r:Ev):vE 4 (x0 :: x1 :: x2 :: x3 :: .fz d :: r)=.ok d:=rfl
@[simp high] theorem vE_o4 (x0 x1 x2 x3:Sl) (d:D) (r:Ev):vE 4 (x0 :: x1 :: x2 :: x3 :: .ow d :: r)=.ok d:=rfl
@[simp high] theorem vF_f4 (x0 x1 x2 x3:Sl) (d:D) (r:Ev):vF 4 (x0 :: x1 :: x2 :: x3 :: .fz d :: r)=.ok d:=rfl
@[simp high] theorem vE_f5 (x0 x1 x2 x3 x4:Sl) (d:D) (r:Ev):vE 5 (x0 :: x1 :: x2 :: x3 :: x4 :: .fz d :: r)=.ok d:=rfl
@[simp high] theorem vE_o5 (x0 x1 x2 x3 x4:Sl) (d:D) (r:Ev):vE 5 (x0 :: x1 :: x2 :: x3 :: x4 :: .ow d :: r)=.ok d:=rfl
@[simp high] theorem vF_f5 (x0 x1 x2 x3 x4:Sl) (d:D) (r:Ev):vF 5 (x0 :: x1 :: x2 :: x3 :: x4 :: .fz d :: r)=.ok d:=rfl
@[simp high] theorem vE_f6 (x0 x1 x2 x3 x4 x5:Sl) (d:D) (r:Ev):vE 6 (x0 :: x1 :: x2 :: x3 :: x4 :: x5 :: .fz d :: r)=.ok d:=rfl
@[simp high] theorem vE_o6 (x0 x1 x2 x3 x4 x5:Sl) (d:D) (r:Ev):vE 6 (x0 :: x1 :: x2 :: x3 :: x4 :: x5 :: .ow d :: r)=.ok d:=rfl
@[simp high] theorem vF_f6 (x0 x1 x2 x3 x4 x5:Sl) (d:D) (r:Ev):vF 6 (x0 :: x1 :: x2 :: x3 :: x4 :: x5 :: .fz d :: r)=.ok d:=rfl
@[simp high] theorem vE_f7 (x0 x1 x2 x3 x4 x5 x6:Sl) (d:D) (r:Ev):vE 7 (x0 :: x1 :: x2 :: x3 :: x4 :: x5 :: x6 :: .fz d :: r)=.ok d:=rfl
@[simp high] theorem vE_o7 (x0 x1 x2 x3 x4 x5 x6:Sl) (d:D) (r:Ev):vE 7 (x0 :: x1 :: x2 :: x3 :: x4 :: x5 :: x6 :: .ow d :: r)=.ok d:=rfl
@[simp high] theorem vF_f7 (x0 x1 x2 x3 x4 x5 x6:Sl) (d:D) (r:Ev):vF 7 (x0 :: x1 :: x2 :: x3 :: x4 :: x5 :: x6 :: .fz d :: r)=.ok d:=rfl
@[simp high] theorem vE_f8 (x0 x1 x2 x3 x4 x5 x6 x7:Sl) (d:D) (r:Ev):vE 8 (x0 :: x1 :: x2 :: x3 :: x4 :: x5 :: x6 :: x7 :: .fz d :: r)=.ok d:=rfl
@[simp high] theorem vE_o8 (x0 x1 x2 x3 x4 x5 x6 x7:Sl) (d:D) (r:Ev):vE 8 (x0 :: x1 :: x2 :: x3 :: x4 :: x5 :: x6 :: x7 :: .ow d :: r)=.ok d:=rfl
@[simp high] theorem vF_f8 (x0 x1 x2 x3 x4 x5 x6 x7:Sl) (d:D) (r:Ev):vF 8 (x0 :: x1 :: x2 :: x3 :: x4 :: x5 :: x6 :: x7 :: .fz d :: r)=.ok d:=rfl
@[simp high] theorem vE_f9 (x0 x1 x2 x3 x4 x5 x6 x7 x8:Sl) (d:D) (r:Ev):vE 9 (x0 :: x1 :: x2 :: x3 :: x4 :: x5 :: x6 :: x7 :: x8 :: .fz d :: r)=.ok d:=rfl
@[simp high] theorem vE_o9 (x0 x1 x2 x3 x4 x5 x6 x7 x8:Sl) (d:D) (r:Ev):vE 9 (x0 :: x1 :: x2 :: x3 :: x4 :: x5 :: x6 :: x7 :: x8 :: .ow d :: r)=.ok d:=rfl
@[simp high] theorem vF_f9 (x0 x1 x2 x3 x4 x5 x6 x7 x8:Sl) (d:D) (r:Ev):vF 9 (x0 :: x1 :: x2 :: x3 :: x4 :: x5 :: x6 :: x7 :: x8 :: .fz d :: r)=.ok d:=rfl
@[simp high] theorem vE_f10 (x0 x1 x2 x3 x4 x5 x6 x7 x8 x9:Sl) (d:D) (r:Ev):vE 10 (x0 :: x1 :: x2 :: x3 :: x4 :: x5 :: x6 :: x7 :: x8 :: x9 :: .fz d :: r)=.ok d:=rfl
@[simp high] theorem vE_o10 (x0 x1 x2 x3 x4 x5 x6 x7 x8 x9:Sl) (d:D) (r:Ev):vE 10 (x0 :: x1 :: x2 :: x3 :: x4 :: x5 :: x6 :: x7 :: x8 :: x9 :: .ow d :: r)=.ok d:=rfl
@[simp high] theorem vF_f10 (x0 x1 x2 x3 x4 x5 x6 x7 x8 x9:Sl) (d:D) (r:Ev):vF 10 (x0 :: x1 :: x2 :: x3 :: x4 :: x5 :: x6 :: x7 :: x8 :: x9 :: .fz d :: r)=.ok d:=rfl
@[simp high] theorem vE_f11 (x0 x1 x2 x3 x4 x5 x6 x7 x8 x9 x10:Sl) (d:D) (r:Ev):vE 11 (x0 :: x1 :: x2 :: x3 :: x4 :: x5 :: x6 :: x7 :: x8 :: x9 :: x10 :: .fz d :: r)=.ok d:=rfl
@[simp high] theorem vE_o11 (x0 x1 x2 x3 x4 x5 x6 x7 x8 x9 x10:Sl) (d:D) (r:Ev):vE 11 (x0 :: x1 :: x2 :: x3 :: x4 :: x5 :: x6 :: x7 :: x8 :: x9 :: x10 :: .ow d :: r)=.ok d:=rfl
@[simp high] theorem vF_f11 (x0 x1 x2 x3 x4 x5 x6 x7 x8 x9 x10:Sl) (d:D) (r:Ev):vF 11 (x0 :: x1 :: x2 :: x3 :: x4 :: x5 :: x6 :: x7 :: x8 :: x9 :: x10 :: .fz d :: r)=.ok d:=rfl
@[simp high] theorem vE_f12 (x0 x1 x2 x3 x4 x5 x6 x7 x8 x9 x10 x11:Sl) (d:D) (r:Ev):vE 12 (x0 :: x1 :: x2 :: x3 :: x4 :: x5 :: x6 :: x7 :: x8 :: x9 :: x10 :: x11 :: .fz d :: r)=.ok d:=rfl
@[simp high] theorem vE_o12 (x0 x1 x2 x3 x4 x5 x6 x7 x8 x9 x10 x11:Sl) (d:D) (r:Ev):vE 12 (x0 :: x1 :: x2 :: x3 :: x4 :: x5 :: x6 :: x7 :: x8 :: x9 :: x10 :: x11 :: .ow d :: r)=.ok d:=rfl
@[simp high] theorem vF_f12 (x0 x1 x2 x3 x4 x5 x6 x7 x8 x9 x10 x11:Sl) (d:D) (r:Ev):vF 12 (x0 :: x1 :: x2 :: x3 :: x4 :: x5 :: x6 :: x7 :: x8 :: x9 :: x10 :: x11 :: .fz d :: r)=.ok d:=rfl
@[simp high] theorem vE_f13 (x0 x1 x2 x3 x4 x5 x6 x7 x8 x9 x10 x11 x12:Sl) (d:D) (r:Ev):vE 13 (x0 :: x1 :: x2 :: x3 :: x4 :: x5 :: x6 :: x7 :: x8 :: x9 :: x10 :: x11 :: x12 :: .fz d :: r)=.ok d:=rfl
@[simp high] theorem vE_o13 (x0 x1 x2 x3 x4 x5 x6 x7 x8 x9 x10 x11 x12:Sl) (d:D) (r:Ev):vE 13 (x0 :: x1 :: x2 :: x3 :: x4 :: x5 :: x6 :: x7 :: x8 :: x9 :: x10 :: x11 :: x12 :: .ow d :: r)=.ok d:=rfl
@[simp high] theorem vF_f13 (x0 x1 x2 x3 x4 x5 x6 x7 x8 x9 x10 x11 x12:Sl) (d:D) (r:Ev):vF 13 (x0 :: x1 :: x2 :: x3 :: x4 :: x5 :: x6 :: x7 :: x8 :: x9 :: x10 :: x11 :: x12 :: .fz d :: r)=.ok d:=rfl
theorem on_board_d (s:Sq):dn_on_board [dS s]=.ok (.bl (decide (OnB s))):=by
 unfold dn_on_board m_on_board
 simp
 by_cases h1:0<=s.1<;>by_cases h2:s.1 < 8<;>by_cases h3:0<=s.2<;>simp [h1,h2,h3,OnB]
theorem check_floor_d {F:List Sq} (h:IsFloor F):dn_check_floor [dL F]=.ok .non:=by
 unfold dn_check_floor m_check_floor
 obtain ⟨E1,e1,t1,rfl⟩:=forL_fold (set:=gN 1) (b:=b_check_floor_1) dS (fun (_:Unit) _=>()) (fun _ E=>∃ t,E=[.fz (dL F),t,.un,.un]) F () [.fz (dL F),.un,.un,.un] (by
  rintro _ E ⟨t,rfl⟩ x hx
  refine ⟨_,rfl,?_⟩
  simp [b_check_floor_1,on_board_d,h.on x hx]) ⟨_,rfl⟩
 obtain ⟨E2,e2,t2,t3,rfl⟩:=forL_fold (set:=gT 2 3) (b:=b_check_floor_2) (fun p:Sq × Sq=>D.tup [dS p.1,dS p.2]) (fun (_:Unit) _=>()) (fun _ E=>∃ t t',E=[.fz (dL F),t1,t,t']) (F.zip (F.drop 1)) () [.fz (dL F),t1,.un,.un] (by
  rintro _ E ⟨t,t',rfl⟩ x hx
  refine ⟨_,rfl,?_⟩
  simp [b_check_floor_2,pairs_lt h.ord x hx]) ⟨_,_,rfl⟩
 simp [e1]
 rw [<-List.drop_one,<-List.map_drop,zip_map2,e2]
 rfl
theorem marked_d {F:List Sq} (h:F.Nodup) (hl:F.length<=1000000):dn_marked [dL F]=.ok (dD F):=by
 unfold dn_marked m_marked
 simp [noOw,hl]
 rw [compL_map dS (fun s=>D.tup [dS s,.bl true]) F fun x hx=>⟨_,rfl,by simp [clr]⟩]
 simp [fDict_D F h hl]
theorem cell_d (ns:List Int) (k:Nat):dn_law_cell_at [.scr ns,.int k]=.ok (.int (ns.getD k 0)):=by
 unfold dn_law_cell_at m_law_cell_at
 simp
 by_cases h:k < ns.length
 ·have:fIx (.scr ns) (.int k)=some (.int ns[k]):=by
   show (atI ns (k:Int)).map D.int=_
   rw [atI_nat (x:=ns[k]) (by simp [h])]; rfl
  simp [h,this]
 ·simp [h]
theorem forL_nx {set:D->Ev->Option Ev} {b:EX} {d:D} {ds:List D} {E E1 E2:Ev} (h1:set d E=some E1) (h2:b E1=.ok (.nx E2)):forL set b (d :: ds) E=forL set b ds E2:=by
 show (match set d E with
  | none=>_
  | some E1=>_)=_
 rw [h1]
 show (b E1 >>= _)=_
 rw [h2]
 rfl
noncomputable def hD (h:Hs):Kvs:=h.map fun p=>([p.1.1,p.1.2],dS p.2)
noncomputable abbrev tD (t:List Sq):Kvs:=t.map fun s=>([s.1,s.2],D.bl true)
theorem key_iff (x y:Sq):([x.1,x.2]=[y.1,y.2]) ↔ x=y:=by
 rcases x with ⟨a,b⟩; rcases y with ⟨c,d⟩
 simp
theorem dget_h (x:Sq):∀ h:Hs,dget (hD h) [x.1,x.2]=(hget h x).map dS
 | []=>rfl
 | p :: r=>by
  have ih:=dget_h x r
  unfold hD at ih ⊢
  rw [List.map_cons]
  unfold dget hget
  rw [List.find?_cons]
  by_cases e:p.1=x
  ·rw [if_pos ((key_iff _ _).mpr e)]; simp [e]
  ·rw [if_neg fun z=>e ((key_iff _ _).mp z)]
   simp only [e,decide_false]
   exact ih
theorem dput_h (x y:Sq) (h:Hs):dput (hD h) [x.1,x.2] (dS y)=hD (hput h x y):=by
 unfold dput hput
 have e:((hD h).any fun kv=>decide (kv.1=[x.1,x.2]))=(h.any fun p=>decide (p.1=x)):=by
  unfold hD
  rw [List.any_map]
  congr 1
  funext p
  exact decide_eq_decide.2 (key_iff _ _)
 rw [e]
 split
 ·unfold hD
  rw [List.map_map,List.map_map]
  refine List.map_congr_left fun p _=>?_
  show (if [p.1.1,p.1.2]=[x.1,x.2] then ([p.1.1,p.1.2],dS y) else ([p.1.1,p.1.2],dS p.2))=_
  show _=([(if p.1=x then (p.1,y) else p).1.1,(if p.1=x then (p.1,y) else p).1.2],dS (if p.1=x then (p.1,y) else p).2)
  by_cases z:p.1=x
  ·rw [if_pos ((key_iff _ _).mpr z),if_pos z]
  ·rw [if_neg fun w=>z ((key_iff _ _).mp w),if_neg z]
 ·unfold hD
  rw [List.map_append]; rfl
theorem hput_le (x y:Sq) (h:Hs):h.length<=(hput h x y).length:=by
 unfold hput
 split
 ·simp
 ·simp
theorem go_le {rec:Sq->Hs->List Sq->Option (Bool × Hs × List Sq)} {s:Sq} (ih:∀ y h t b h' t',rec y h t=some (b,h',t')->h.length<=h'.length/\t.length<=t'.length) :
  ∀ (ns:List Sq) (h:Hs) (t:List Sq) (b:Bool) (h':Hs) (t':List Sq),fpGo rec s ns h t=some (b,h',t')->h.length<=h'.length/\t.length<=t'.length
 | [],h,t,b,h',t',e=>by cases e; exact ⟨Nat.le_refl _,Nat.le_refl _⟩
 | x :: r,h,t,b,h',t',e=>by
  unfold fpGo at e
  split at e
  ·exact go_le ih r h t b h' t' e
  ·split at e
   ·cases e; exact ⟨hput_le _ _ _,by simp⟩
   ·split at e
    ·cases e
    ·rename_i e2
     cases e
     obtain ⟨a1,a2⟩:=ih _ _ _ _ _ _ e2
     rw [List.length_append,List.length_singleton] at a2
     exact ⟨Nat.le_trans a1 (hput_le _ _ _),by omega⟩
    ·rename_i e2
     obtain ⟨a1,a2⟩:=ih _ _ _ _ _ _ e2
     rw [List.length_append,List.length_singleton] at a2
     obtain ⟨b1,b2⟩:=go_le ih r _ _ b h' t' e
     exact ⟨by omega,by omega⟩
theorem fp_le {F:List Sq}:∀ (n:Nat) (s:Sq) (h:Hs) (t:List Sq) (b:Bool) (h':Hs) (t':List Sq),fp F n s h t=some (b,h',t')->h.length<=h'.length/\t.length<=t'.length
 | 0,s,h,t,b,h',t',e=>by cases e
 | n + 1,s,h,t,b,h',t',e=>go_le (fun y h t b h' t' e=>fp_le n y h t b h' t' e) (nbL F s) h t b h' t' e
theorem neighbours_d (F:List Sq) (s:Sq):dn_neighbours [dS s,dD F]=.ok (dL (nbL F s)):=by
 unfold dn_neighbours m_neighbours
 have ec:=compL_ok (set:=gN 5) (mt:=tstB (e2 fDin (vE 5) (vE 1))) (me:=vF 5) (E:=clr [5] [.fz (dS s),.fz (dD F),.fz (.int s.1),.fz (.int s.2),.fz (dL [(s.1 - 1,s.2),(s.1,s.2 - 1),(s.1,s.2 + 1),(s.1 + 1,s.2)]),.un]) dS (fun q=>decide (q ∈ F)) dS [(s.1 - 1,s.2),(s.1,s.2 - 1),(s.1,s.2 + 1),(s.1 + 1,s.2)] (fun x hx=>⟨_,rfl,by simp [clr],fun _=>by simp [clr]⟩)
 simp only [List.map_cons,List.map_nil] at ec
 simp [noOw]
 exact (congrArg (fun r:R (List D)=>ended ((r >>= fun ys=>R.ok (D.lst ys)) >>= fun d=>R.ok (Out.rt d))) ec).trans rfl
theorem forL_rt {set:D->Ev->Option Ev} {b:EX} {d x:D} {ds:List D} {E E1:Ev} (h1:set d E=some E1) (h2:b E1=.ok (.rt x)):forL set b (d :: ds) E=.ok (.rt x):=by
 show (match set d E with
  | none=>_
  | some E1=>_)=_
 rw [h1]
 show (b E1 >>= _)=_
 rw [h2]
 rfl
theorem callQ_ok {j j' n:Nat} {dn:List D->Kvs->Kvs->R (D × Kvs × Kvs)} {ma:Ev->R (List D)} {E:Ev} {c c' d d':Kvs} {ds:List D} {k:Bool} (h1:E[j]?=some (.ow (.dic c))) (h2:E[j']?=some (.ow (.dic c'))) (h3:ma E=.ok ds) (h4:ds.length + 2=n) (h5:dn ds c c'=.ok (.bl k,d,d')) :
  callQ j j' n dn ma E=.ok (k,(E.set j (.ow (.dic d))).set j' (.ow (.dic d'))):=by
 unfold callQ
 rw [h1,h2,h3]
 simp only [R.ok_bind]
 rw [if_pos h4,h5]
 rfl
theorem partner_go {F:List Sq} {s:Sq} {rec:Sq->Hs->List Sq->Option (Bool × Hs × List Sq)} {rd:List D->Kvs->Kvs->R (D × Kvs × Kvs)}
  (ih:∀ y h t b h' t',rec y h t=some (b,h',t')->h'.length<=999->t'.length<=999->rd [dS y,dD F] (hD h) (tD t)=.ok (.bl b,hD h',tD t')) (il:∀ y h t b h' t',rec y h t=some (b,h',t')->h.length<=h'.length/\t.length<=t'.length) :
  ∀ (ns:List Sq) (h:Hs) (t:List Sq) (b:Bool) (h':Hs) (t':List Sq) (x4:Sl),fpGo rec s ns h t=some (b,h',t')->h'.length<=999->t'.length<=999 →
   ∃ y4,forL (gN 4) (b_finds_partner_1 rd) (ns.map dS) [.fz (dS s),.fz (dD F),.ow (.dic (hD h)),.ow (.dic (tD t)),x4]=(if b=true then .ok (.rt (.tup [.bl true,.dic (hD h'),.dic (tD t')])) else .ok (.nx [.fz (dS s),.fz (dD F),.ow (.dic (hD h')),.ow (.dic (tD t')),y4]))
 | [],h,t,b,h',t',x4,e,_,_=>by
  cases e
  exact ⟨x4,rfl⟩
 | x :: r,h,t,b,h',t',x4,e,l1,l2=>by
  obtain ⟨c1,c2⟩:=go_le il (x :: r) h t b h' t' e
  have lt:t.length < 1000000:=by omega
  have lh:h.length < 1000000:=by omega
  have hn:tstB (e2 fDnotIn (vE 4) (vE 3)) [.fz (dS s),.fz (dD F),.ow (.dic (hD h)),.ow (.dic (tD t)),.fz (dS x)]=.ok (!(decide (x ∈ t))):=by
   have:=fDnotIn_S x t
   simp [this]
  unfold fpGo at e
  by_cases hx:x ∈ t
  ·rw [if_pos hx] at e
   obtain ⟨y4,g⟩:=partner_go ih il r h t b h' t' (.fz (dS x)) e l1 l2
   refine ⟨y4,?_⟩
   rw [List.map_cons,forL_nx (set:=gN 4) (E1:=[.fz (dS s),.fz (dD F),.ow (.dic (hD h)),.ow (.dic (tD t)),.fz (dS x)]) rfl (E2:=[.fz (dS s),.fz (dD F),.ow (.dic (hD h)),.ow (.dic (tD t)),.fz (dS x)])]
   ·exact g
   ·unfold b_finds_partner_1
    exact if_nil (by rw [hn]; simp [hx])
  ·rw [if_neg hx] at e
   have put3:xDput 3 (vE 4) (kE (.bl true)) [.fz (dS s),.fz (dD F),.ow (.dic (hD h)),.ow (.dic (tD t)),.fz (dS x)]=.ok (.nx [.fz (dS s),.fz (dD F),.ow (.dic (hD h)),.ow (.dic (tD (t++[x]))),.fz (dS x)]):=by
    have:=dput_D x t hx
    show (if (tD t).length < 1000000 then R.ok (Out.nx [.fz (dS s),.fz (dD F),.ow (.dic (hD h)),.ow (.dic (dput (tD t) [x.1,x.2] (.bl true))),.fz (dS x)]) else .no)=_
    rw [if_pos (by simpa using lt),this]
   have put2:∀ (h1:Hs) (t1:List Sq),h1.length<=999->xSeq (xDput 2 (vE 4) (vF 0)) (xRetQ 2 (kE (.bl true))) [.fz (dS s),.fz (dD F),.ow (.dic (hD h1)),.ow (.dic (tD t1)),.fz (dS x)]=.ok (.rt (.tup [.bl true,.dic (hD (hput h1 x s)),.dic (tD t1)])):=fun h1 t1 l=>by
    refine seq_nx (E':=[.fz (dS s),.fz (dD F),.ow (.dic (hD (hput h1 x s))),.ow (.dic (tD t1)),.fz (dS x)]) ?_ rfl
    show (if (hD h1).length < 1000000 then R.ok (Out.nx [.fz (dS s),.fz (dD F),.ow (.dic (dput (hD h1) [x.1,x.2] (dS s))),.ow (.dic (tD t1)),.fz (dS x)]) else .no)=_
    rw [if_pos (by unfold hD; rw [List.length_map]; omega),dput_h]
   have body:∀ o,xIfC (cOr (tstB (e2 fDnotIn (vE 4) (vE 2))) (callQ 2 3 4 rd (aCons (e2 fDget (vE 2) (vE 4)) (aCons (vF 1) (aOwn2 2 3))))) (xSeq (xDput 2 (vE 4) (vF 0)) (xRetQ 2 (kE (.bl true)))) xNil [.fz (dS s),.fz (dD F),.ow (.dic (hD h)),.ow (.dic (tD (t++[x]))),.fz (dS x)]=o →
     b_finds_partner_1 rd [.fz (dS s),.fz (dD F),.ow (.dic (hD h)),.ow (.dic (tD t)),.fz (dS x)]=o:=fun o ho=>by
    unfold b_finds_partner_1 xIf
    rw [hn]
    simp only [hx,decide_false,Bool.not_false,R.ok_bind,if_true]
    exact seq_nx put3 ho
   have hq:tstB (e2 fDnotIn (vE 4) (vE 2)) [.fz (dS s),.fz (dD F),.ow (.dic (hD h)),.ow (.dic (tD (t++[x]))),.fz (dS x)]=.ok (!(hget h x).isSome):=by
    have:fDnotIn (dS x) (.dic (hD h))=some (.bl (!(hget h x).isSome)):=by
     show some (D.bl (!(dget (hD h) [x.1,x.2]).isSome))=_
     rw [dget_h]; simp
    simp [this]
   cases eg:hget h x with
   | none =>
    rw [eg] at e
    dsimp only at e
    cases e
    refine ⟨x4,?_⟩
    rw [if_pos rfl,List.map_cons]
    refine forL_rt (set:=gN 4) (E1:=[.fz (dS s),.fz (dD F),.ow (.dic (hD h)),.ow (.dic (tD t)),.fz (dS x)]) rfl (body _ ?_)
    unfold xIfC cOr
    rw [hq,eg]
    simp only [Option.isSome_none,Bool.not_false,R.ok_bind,if_true]
    exact put2 h (t++[x]) (Nat.le_trans (hput_le x s h) l1)
   | some y =>
    rw [eg] at e
    dsimp only at e
    have call:∀ bb hh tt,rec y h (t++[x])=some (bb,hh,tt)->hh.length<=999->tt.length<=999->cOr (tstB (e2 fDnotIn (vE 4) (vE 2))) (callQ 2 3 4 rd (aCons (e2 fDget (vE 2) (vE 4)) (aCons (vF 1) (aOwn2 2 3)))) [.fz (dS s),.fz (dD F),.ow (.dic (hD h)),.ow (.dic (tD (t++[x]))),.fz (dS x)]=.ok (bb,[.fz (dS s),.fz (dD F),.ow (.dic (hD hh)),.ow (.dic (tD tt)),.fz (dS x)]):=fun bb hh tt er k1 k2=>by
     unfold cOr
     rw [hq,eg]
     simp only [Option.isSome_some,Bool.not_true,R.ok_bind,Bool.false_eq_true,if_false]
     have dg:fDget (.dic (hD h)) (dS x)=some (dS y):=by
      show dget (hD h) [x.1,x.2]=_
      rw [dget_h,eg]; rfl
     exact callQ_ok (ds:=[dS y,dD F]) rfl rfl (by simp [dg,aOwn2]) rfl (ih _ _ _ _ _ _ er k1 k2)
    cases er:rec y h (t++[x]) with
    | none=>rw [er] at e; cases e
    | some z =>
     obtain ⟨bb,hh,tt⟩:=z
     rw [er] at e
     cases bb with
     | true =>
      dsimp only at e
      cases e
      have k1:=Nat.le_trans (hput_le x s hh) l1
      refine ⟨x4,?_⟩
      rw [if_pos rfl,List.map_cons]
      refine forL_rt (set:=gN 4) (E1:=[.fz (dS s),.fz (dD F),.ow (.dic (hD h)),.ow (.dic (tD t)),.fz (dS x)]) rfl (body _ ?_)
      unfold xIfC
      rw [call _ _ _ er k1 l2]
      simp only [R.ok_bind,if_true]
      exact put2 hh _ k1
     | false =>
      dsimp only at e
      obtain ⟨g1,g2⟩:=go_le il r hh tt b h' t' e
      obtain ⟨y4,g⟩:=partner_go ih il r hh tt b h' t' (.fz (dS x)) e l1 l2
      refine ⟨y4,?_⟩
      rw [List.map_cons,forL_nx (set:=gN 4) (E1:=[.fz (dS s),.fz (dD F),.ow (.dic (hD h)),.ow (.dic (tD t)),.fz (dS x)]) rfl (E2:=[.fz (dS s),.fz (dD F),.ow (.dic (hD hh)),.ow (.dic (tD tt)),.fz (dS x)])]
      ·exact g
      ·refine body _ ?_
       unfold xIfC
       rw [call _ _ _ er (by omega) (by omega)]
       simp only [R.ok_bind,Bool.false_eq_true,if_false]
       rfl
theorem partner_d {F:List Sq}:∀ (n:Nat) (s:Sq) (h:Hs) (t:List Sq) (b:Bool) (h':Hs) (t':List Sq),fp F n s h t=some (b,h',t')->h'.length<=999->t'.length<=999->dnf_finds_partner n [dS s,dD F] (hD h) (tD t)=.ok (.bl b,hD h',tD t')
 | 0,s,h,t,b,h',t',e,_,_=>by cases e
 | n + 1,s,h,t,b,h',t',e,l1,l2=>by
  obtain ⟨y4,g⟩:=partner_go (fun y h t b h' t' e=>partner_d n y h t b h' t' e) (fun y h t b h' t' e=>fp_le n y h t b h' t' e) (nbL F s) h t b h' t' .un e l1 l2
  have hi:iD (eCall 2 dn_neighbours (aCons (vF 0) (aCons (vF 1) (aNil)))) [.fz (dS s),.fz (dD F),.ow (.dic (hD h)),.ow (.dic (tD t)),.un]=.ok ((nbL F s).map dS):=by
   have:=neighbours_d F s
   simp [this]
  show endedQ (xSeq (xFor (iD (eCall 2 dn_neighbours (aCons (vF 0) (aCons (vF 1) (aNil))))) (gN 4) (b_finds_partner_1 (dnf_finds_partner n))) (xRetQ 2 (kE (.bl false))) [.fz (dS s),.fz (dD F),.ow (.dic (hD h)),.ow (.dic (tD t)),.un])=_
  cases b with
  | true =>
   rw [if_pos rfl] at g
   rw [seq_rt (d:=.tup [.bl true,.dic (hD h'),.dic (tD t')])]
   ·rfl
   ·unfold xFor; rw [hi]; exact g
  | false =>
   rw [if_neg (by simp)] at g
   rw [seq_nx (E':=[.fz (dS s),.fz (dD F),.ow (.dic (hD h')),.ow (.dic (tD t')),y4]) (r:=.ok (.rt (.tup [.bl false,.dic (hD h'),.dic (tD t')])))]
   ·rfl
   ·unfold xFor; rw [hi]; exact g
   ·rfl
theorem half_of_d (F:List Sq) (p:Int) (hl:F.length<=1000):dn_half_of [dL F,.int p]=.ok (dL (half F p)):=by
 unfold dn_half_of m_half_of
 simp [noOw,show F.length<=1000000 by omega]
 rw [compL_ok dS (fun s=>decide ((s.1 + s.2) % 2=p)) dS F (fun x hx=>⟨_,rfl,by simp [clr],fun _=>by simp [clr]⟩)]
 rfl
noncomputable def lh (F:List Sq):Int:=if (half F 1).length<=(half F 0).length then 0 else 1
theorem larger_half_d (F:List Sq) (hl:F.length<=1000):dn_larger_half [dL F]=.ok (dL (half F (lh F))):=by
 unfold dn_larger_half m_larger_half
 have h0:=half_of_d F 0 hl
 have h1:=half_of_d F 1 hl
 simp [h0,h1]
 unfold lh
 by_cases h:(half F 1).length<=(half F 0).length
 ·simp [h]
 ·simp [h]
theorem lh_ok (F:List Sq):(lh F=0\/lh F=1)/\(half F (1 - lh F)).length<=(half F (lh F)).length:=by
 unfold lh
 by_cases h:(half F 1).length<=(half F 0).length
 ·rw [if_pos h]; exact ⟨.inl rfl,h⟩
 ·rw [if_neg h]; exact ⟨.inr rfl,by show (half F 0).length<=_; omega⟩
theorem flag_over_d (x y:Sq):dn_flag_over [dS x,dS y]=.ok (dF (fo x y)):=by
 unfold dn_flag_over m_flag_over
 have hm:fMinT (dS x) (dS y)=some (dS (if Slt y x then y else x)):=by
  have h1:=fLt_S y x
  have h2:HT.lexLt [y.1,y.2] [x.1,x.2]=decide (Slt y x):=by
   have:some (D.bl (HT.lexLt [y.1,y.2] [x.1,x.2]))=some (D.bl (decide (Slt y x))):=h1
   injection this with this
   injection this
  show some (if HT.lexLt [y.1,y.2] [x.1,x.2]=true then dS y else dS x)=_
  rw [h2]
  by_cases h:Slt y x
  ·simp [h]
  ·simp [h]
 unfold fo
 by_cases h:x.1=y.1
 ·simp [hm,h]
 ·simp [hm,h]
theorem wall_from_d {s:Sq} {h:Hs} {t:List Sq} (ht:∀ x ∈ t,∃ y,hget h x=some y) (hl:t.length<=63):dn_wall_from [dS s,.dic (hD h),.dic (tD t)]=.ok (dL (sortS (s :: t.map (heldBy h)))):=by
 have ec:=compL_map (set:=gN 3) (me:=e2 fDget (vE 1) (vE 3)) (E:=clr [3] [.fz (dS s),.fz (.dic (hD h)),.fz (.dic (tD t)),.un]) dS (fun x=>dS (heldBy h x)) t (fun x hx=>⟨_,rfl,by
  obtain ⟨y,e⟩:=ht x hx
  have dg:fDget (.dic (hD h)) (dS x)=some (dS (heldBy h x)):=by
   show dget (hD h) [x.1,x.2]=_
   unfold heldBy
   rw [dget_h,e]; rfl
  simp [clr,dg]⟩)
 have hk:iK (vF 2) [.fz (dS s),.fz (.dic (hD h)),.fz (.dic (tD t)),.un]=.ok (t.map dS):=by
  show R.ok ((tD t).map fun kv=>kT kv.1)=_
  rw [List.map_map]; rfl
 have hs:=fSort_S65 (s :: t.map (heldBy h)) (by simp; omega)
 have e:eComp [3] (gN 3) (iK (vF 2)) tTrue (e2 fDget (vE 1) (vE 3)) [.fz (dS s),.fz (.dic (hD h)),.fz (.dic (tD t)),.un]=.ok (.lst (t.map fun x=>dS (heldBy h x))):=by
  unfold eComp
  rw [hk]
  simp only [R.ok_bind]
  rw [if_pos (by rfl),if_pos (by rw [List.length_map]; omega)]
  rw [ec]
  rfl
 have e2':(s :: t.map (heldBy h)).map dS=dS s :: t.map fun x=>dS (heldBy h x):=by
  rw [List.map_cons,List.map_map]; rfl
 unfold dn_wall_from m_wall_from
 show ended (xRet (e1 fSort (e2 fAdd (eLst (aCons (vF 0) (aNil))) (eComp [3] (gN 3) (iK (vF 2)) (tTrue) (e2 fDget (vE 1) (vE 3))))) [.fz (dS s),.fz (.dic (hD h)),.fz (.dic (tD t)),.un])=_
 have ea:e2 fAdd (eLst (aCons (vF 0) (aNil))) (eComp [3] (gN 3) (iK (vF 2)) (tTrue) (e2 fDget (vE 1) (vE 3))) [.fz (dS s),.fz (.dic (hD h)),.fz (.dic (tD t)),.un]=.ok (dL (s :: t.map (heldBy h))):=by
  show (R.ok (D.lst [dS s]) >>= fun x=>eComp [3] (gN 3) (iK (vF 2)) tTrue (e2 fDget (vE 1) (vE 3)) [.fz (dS s),.fz (.dic (hD h)),.fz (.dic (tD t)),.un] >>= fun y=>ofO (fAdd x y))=_
  rw [e]
  simp only [R.ok_bind]
  show ofO (fAdd (.lst [dS s]) (.lst (t.map fun x=>dS (heldBy h x))))=.ok (.lst ((s :: t.map (heldBy h)).map dS))
  rw [e2']
  have:fAdd (.lst [dS s]) (.lst (t.map fun x=>dS (heldBy h x)))=some (.lst (dS s :: t.map fun x=>dS (heldBy h x))):=by
   simp [show t.length + 1<=1000000 by omega,show 1 + t.length<=1000000 by omega]
  rw [this]; rfl
 show ended ((e2 fAdd (eLst (aCons (vF 0) (aNil))) (eComp [3] (gN 3) (iK (vF 2)) (tTrue) (e2 fDget (vE 1) (vE 3))) [.fz (dS s),.fz (.dic (hD h)),.fz (.dic (tD t)),.un] >>= fun d=>ofO (fSort d)) >>= fun d=>R.ok (Out.rt d))=_
 rw [ea]
 simp only [R.ok_bind,hs]
 rfl
theorem floor_len {F:List Sq} (hF:IsFloor F):F.length<=100:=inR_len (nodup_of_sorted hF.ord) fun x hx=>by have:=hF.on x hx; unfold OnB at this; unfold InR; omega
theorem lay_go {F:List Sq} (hF:IsFloor F) (hl:F.length<=64):∀ (suf pre:List Sq) (h:Hs) (x3 x4:Sl),half F (lh F)=pre++suf->Hok F h->(h.map (·.2)).Perm pre->(∀ d,x3 ≠ .ow d) →
  (∃ h' x3' x4',forL (gN 3) b_lay_1 (suf.map dS) [.fz (dL F),.fz (dD F),.ow (.dic (hD h)),x3,x4,.un]=.ok (.nx [.fz (dL F),.fz (dD F),.ow (.dic (hD h')),x3',x4',.un])/\Hok F h'/\(h'.map (·.2)).Perm (half F (lh F))/\∀ d,x3' ≠ .ow d) ∨
  ∃ W,forL (gN 3) b_lay_1 (suf.map dS) [.fz (dL F),.fz (dD F),.ow (.dic (hD h)),x3,x4,.un]=.ok (.rt (.tup [.str "wall",dL W]))/\Wall F W/\W.length<=64
 | [],pre,h,x3,x4,e,hk,hv,nx=>.inl ⟨h,x3,x4,rfl,hk,by rw [e,List.append_nil]; exact hv,nx⟩
 | s :: r,pre,h,x3,x4,e,hk,hv,nx=>by
  have nF:=nodup_of_sorted hF.ord
  obtain ⟨hp,hle⟩:=lh_ok F
  have hsum:=(halves F (lh F) hp).length_eq
  rw [List.length_append] at hsum
  have nA:=half_nodup nF (lh F)
  have hs:s ∈ half F (lh F):=by rw [e]; simp
  have preA:∀ y ∈ pre,y ∈ half F (lh F):=fun y hy=>by rw [e]; exact List.mem_append_left _ hy
  have inU:∀ y ∈ half F (lh F),∀ x ∈ nbL F y,x ∈ half F (1 - lh F):=fun y hy x hx=>by
   have:=nb_half hx
   rwa [(mem_half.mp hy).2] at this
  have vA:∀ y ∈ h.map (·.2),y ∈ half F (lh F):=fun y hy=>preA y (hv.mem_iff.mp hy)
  have nU:=half_nodup nF (1 - lh F)
  obtain ⟨b,h',t',e1,k,f1,f2⟩:=fp_told (F:=F) (U:=half F (1 - lh F)) 34 s h [] hk (inU s hs) (fun q hq=>inU _ (vA _ (List.mem_map.mpr ⟨q,hq,rfl⟩))) List.nodup_nil (fun x hx=>by cases hx) (by show _ < 34 + 0; omega)
  have lt':t'.length<=32:=by have:=nodup_len k.nd k.sub; omega
  have lh0:h.length<=64:=by
   have h1:=hv.length_eq
   have h2:=congrArg List.length e
   rw [List.length_append,List.length_cons] at h2
   rw [List.length_map] at h1
   omega
  have lh':h'.length<=999:=by
   cases b with
   | true =>
    have:=(f1 rfl).val.length_eq
    rw [List.length_map,List.length_cons,List.length_map] at this
    omega
   | false=>rw [(f2 rfl).eq]; omega
  have pd:dn_finds_partner [dS s,dD F] (hD h) (tD [])=.ok (.bl b,hD h',tD t'):=partner_d 34 s h [] b h' t' e1 lh' (by omega)
  have call:callQ 2 4 4 dn_finds_partner (aCons (vF 3) (aCons (vF 1) (aOwn2 2 4))) [.fz (dL F),.fz (dD F),.ow (.dic (hD h)),.fz (dS s),.ow (.dic (tD [])),.un]=.ok (b,[.fz (dL F),.fz (dD F),.ow (.dic (hD h')),.fz (dS s),.ow (.dic (tD t')),.un]) :=
   callQ_ok (ds:=[dS s,dD F]) rfl rfl (by simp [aOwn2]) rfl pd
  rw [List.map_cons]
  cases b with
  | true =>
   obtain ⟨g1,g2,g3⟩:=f1 rfl
   have bd:b_lay_1 [.fz (dL F),.fz (dD F),.ow (.dic (hD h)),.fz (dS s),x4,.un]=.ok (.nx [.fz (dL F),.fz (dD F),.ow (.dic (hD h')),.fz (dS s),.ow (.dic (tD t')),.un]):=by
    unfold b_lay_1
    refine seq_nx (E':=[.fz (dL F),.fz (dD F),.ow (.dic (hD h)),.fz (dS s),.ow (.dic (tD [])),.un]) rfl ?_
    unfold xIfC cNot
    rw [call]
    rfl
   rw [forL_nx (set:=gN 3) (E1:=[.fz (dL F),.fz (dD F),.ow (.dic (hD h)),.fz (dS s),x4,.un]) rfl bd]
   exact lay_go hF hl r (pre++[s]) h' _ _ (by rw [e]; simp) g1 (g3.trans ((hv.cons s).trans (List.perm_append_singleton s pre).symm)) (fun d z=>nomatch z)
  | false =>
   obtain ⟨g1,g2,g3⟩:=f2 rfl
   subst g1
   right
   have cls:∀ x ∈ t',∃ y,hget h' x=some y/\∀ z ∈ nbL F y,z ∈ t':=fun x hx=>by
    rcases g3 x hx with q | q
    ·cases q
    ·exact q
   have nv:(s :: h'.map (·.2)).Nodup:=by
    refine (hv.cons s).nodup_iff.mpr ?_
    rw [e] at nA
    have:=List.nodup_append.mp nA
    refine List.nodup_cons.mpr ⟨fun z=>this.2.2 s z s (by simp) rfl,this.1⟩
   obtain ⟨w1,w2⟩:=wall_ok hF hs nv vA k.nd g2 cls
   refine ⟨sortS (s :: t'.map (heldBy h')),?_,w1,by rw [(sortS_perm _).length_eq,w2]; omega⟩
   refine forL_rt (set:=gN 3) (E1:=[.fz (dL F),.fz (dD F),.ow (.dic (hD h')),.fz (dS s),x4,.un]) rfl ?_
   unfold b_lay_1
   refine seq_nx (E':=[.fz (dL F),.fz (dD F),.ow (.dic (hD h')),.fz (dS s),.ow (.dic (tD [])),.un]) rfl ?_
   unfold xIfC cNot
   rw [call]
   have wd:=wall_from_d (s:=s) (h:=h') (t:=t') (fun x hx=>(cls x hx).imp fun _ z=>z.1) (by omega)
   show (eTup (aCons (kE (.str "wall")) (aCons (eCall 3 dn_wall_from (aCons (vF 3) (aCons (vF 2) (aCons (vF 4) (aNil))))) (aNil))) [.fz (dL F),.fz (dD F),.fz (.dic (hD h')),.fz (dS s),.fz (.dic (tD t')),.un] >>= fun d=>R.ok (Out.rt d))=_
   simp [wd]
theorem lay_d {F:List Sq} (hF:IsFloor F) (hl:F.length<=64):(∃ L,dn_lay [dL F]=.ok (.tup [.str "laid",dFL L])/\Lay F L)\/∃ W,dn_lay [dL F]=.ok (.tup [.str "wall",dL W])/\Wall F W/\W.length<=64:=by
 have nF:=nodup_of_sorted hF.ord
 obtain ⟨hp,hle⟩:=lh_ok F
 have cf:=check_floor_d hF
 have md:=marked_d nF (by omega:F.length<=1000000)
 have ld:=larger_half_d F (by omega)
 obtain ⟨m0,hm0⟩:∃ m0:EX,m0=xFor (iD (eCall 1 dn_larger_half (aCons (vF 0) (aNil)))) (gN 3) b_lay_1:=⟨_,rfl⟩
 have hfor:m0 [.fz (dL F),.fz (dD F),.ow (.dic (hD [])),.un,.un,.un]=forL (gN 3) b_lay_1 ((half F (lh F)).map dS) [.fz (dL F),.fz (dD F),.ow (.dic (hD [])),.un,.un,.un]:=by
  rw [hm0]
  unfold xFor
  have:iD (eCall 1 dn_larger_half (aCons (vF 0) (aNil))) [.fz (dL F),.fz (dD F),.ow (.dic (hD [])),.un,.un,.un]=.ok ((half F (lh F)).map dS):=by simp [ld]
  rw [this]; rfl
 have start:∀ (n:EX) (r:R Out),xSeq m0 n [.fz (dL F),.fz (dD F),.ow (.dic (hD [])),.un,.un,.un]=r->(xSeq (xDo (eCall 1 dn_check_floor (aCons (vF 0) (aNil)))) (xSeq (xSet 1 (eCall 1 dn_marked (aCons (vF 0) (aNil)))) (xSeq (xOwn 2 (kE (.dic []))) (xSeq m0 n)))) [.fz (dL F),.un,.un,.un,.un,.un]=r:=fun n r h=>by
  refine seq_nx (E':=[.fz (dL F),.un,.un,.un,.un,.un]) (by simp [cf]) ?_
  refine seq_nx (E':=[.fz (dL F),.fz (dD F),.un,.un,.un,.un]) (set_ok (by simp [md])) ?_
  exact seq_nx (E':=[.fz (dL F),.fz (dD F),.ow (.dic (hD [])),.un,.un,.un]) rfl h
 rcases lay_go hF hl (half F (lh F)) [] [] .un .un rfl ⟨List.nodup_nil,fun p hq=>by cases hq⟩ (List.Perm.refl _) (fun d z=>nomatch z) with ⟨h',x3,x4,e,hk,hv,nx⟩ | ⟨W,e,hW,lW⟩
 ·left
  refine ⟨_,?_,laid_lay hF hp hle hk hv⟩
  have lh':h'.length<=64:=by
   have h1:=hv.length_eq
   have h2:(half F (lh F)).length<=F.length:=List.length_filter_le _ _
   rw [List.length_map] at h1
   omega
  have ec:=compL_map (set:=gT 5 3) (me:=eCall 2 dn_flag_over (aCons (vF 5) (aCons (vF 3) (aNil)))) (E:=clr [5,3] [.fz (dL F),.fz (dD F),.fz (.dic (hD h')),x3,x4,.un]) (fun q:Sq × Sq=>D.tup [dS q.1,dS q.2]) (fun q=>dF (fo q.1 q.2)) h' (fun q _=>⟨_,rfl,by
   have:=flag_over_d q.1 q.2
   simp [clr,this]⟩)
  have hs:=fSort_F65 (h'.map fun q=>fo q.1 q.2) (by rw [List.length_map]; omega)
  have ei:iDi (vF 2) [.fz (dL F),.fz (dD F),.fz (.dic (hD h')),x3,x4,.un]=.ok (h'.map fun q:Sq × Sq=>D.tup [dS q.1,dS q.2]):=by
   show R.ok ((hD h').map fun kv=>D.tup [kT kv.1,kv.2])=_
   unfold hD
   rw [List.map_map]; rfl
  have en:noOw [5,3] [.fz (dL F),.fz (dD F),.fz (.dic (hD h')),x3,x4,.un]=true:=by
   cases x3 with
   | ow d=>exact absurd rfl (nx d)
   | fz d=>rfl
   | un=>rfl
  have em:eComp [5,3] (gT 5 3) (iDi (vF 2)) tTrue (eCall 2 dn_flag_over (aCons (vF 5) (aCons (vF 3) (aNil)))) [.fz (dL F),.fz (dD F),.fz (.dic (hD h')),x3,x4,.un]=.ok (dFL (h'.map fun q=>fo q.1 q.2)):=by
   unfold eComp
   rw [if_pos en,ei]
   simp only [R.ok_bind]
   rw [if_pos (by rw [List.length_map]; omega),ec]
   simp only [R.ok_bind]
   show _=R.ok (D.lst ((h'.map fun q=>fo q.1 q.2).map dF))
   rw [List.map_map]; rfl
  show ended (m_lay [.fz (dL F),.un,.un,.un,.un,.un])=_
  unfold m_lay
  rw [<-hm0]
  rw [start _ (.ok (.rt (.tup [.str "laid",dFL (sortF (h'.map fun q=>fo q.1 q.2))]))) (seq_nx (by rw [hfor]; exact e) ?_)]
  ·rfl
  ·have ef:e1 fSort (eComp [5,3] (gT 5 3) (iDi (vF 2)) tTrue (eCall 2 dn_flag_over (aCons (vF 5) (aCons (vF 3) (aNil))))) [.fz (dL F),.fz (dD F),.fz (.dic (hD h')),x3,x4,.un]=.ok (dFL (sortF (h'.map fun q=>fo q.1 q.2))):=by
    unfold e1
    rw [em]
    simp only [R.ok_bind,hs]
    rfl
   show xRet (eTup (aCons (kE (.str "laid")) (aCons (e1 fSort (eComp [5,3] (gT 5 3) (iDi (vF 2)) tTrue (eCall 2 dn_flag_over (aCons (vF 5) (aCons (vF 3) (aNil)))))) (aNil)))) [.fz (dL F),.fz (dD F),.fz (.dic (hD h')),x3,x4,.un]=_
   generalize e1 fSort (eComp [5,3] (gT 5 3) (iDi (vF 2)) tTrue (eCall 2 dn_flag_over (aCons (vF 5) (aCons (vF 3) (aNil)))))=mm at ef ⊢
   simp [ef]
 ·right
  refine ⟨W,?_,hW,lW⟩
  show ended (m_lay [.fz (dL F),.un,.un,.un,.un,.un])=_
  unfold m_lay
  rw [<-hm0]
  rw [start _ (.ok (.rt (.tup [.str "wall",dL W]))) (seq_rt (by rw [hfor]; exact e))]
  rfl
noncomputable def inOrd (L:List Fl):Bool:=(L.zip (L.drop 1)).all fun p=>decide (Slt (pos2 p.1) (pos2 p.2))
theorem ix_F {L:List Fl} {n:Nat} (h:n < L.length):fIx (dFL L) (.int n)=some (dF L[n]):=by
 rw [fIx_l]
 refine atI_nat ?_
 rw [List.getElem?_map]
 simp [h]
theorem lcov (M:List Fl):(cover M).length=2 * M.length:=by
 unfold cover; rw [List.length_flatMap]; simp only [cells,List.length_cons,List.length_nil,List.map_const',List.sum_replicate_nat]; omega
noncomputable def wayOk (f:Fl):Bool:=decide (f.2.2=0\/f.2.2=1)
noncomputable def chk:Option Fl->List Fl->Bool
 | _,[]=>true
 | p,f :: r=>(wayOk f && (match p with | none=>true | some g=>decide (Slt (pos2 g) (pos2 f)))) && chk (some f) r
theorem inOrd_cons (g f:Fl) (r:List Fl):inOrd (g :: f :: r)=(decide (Slt (pos2 g) (pos2 f)) && inOrd (f :: r)):=by
 unfold inOrd
 simp
theorem chk_some:∀ (r:List Fl) (g:Fl),chk (some g) r=(r.all wayOk && inOrd (g :: r))
 | [],g=>by simp [chk,inOrd]
 | f :: r,g=>by
  rw [chk,chk_some r f,inOrd_cons,List.all_cons]
  generalize wayOk f=a
  generalize decide (Slt (pos2 g) (pos2 f))=b
  generalize r.all wayOk=c
  generalize inOrd (f :: r)=d
  cases a<;>cases b<;>cases c<;>cases d<;>rfl
theorem chk_none (L:List Fl):chk none L=(L.all wayOk && inOrd L):=by
 cases L with
 | nil=>rfl
 | cons f r =>
  rw [chk,chk_some r f,List.all_cons]
  generalize wayOk f=a
  generalize r.all wayOk=c
  generalize inOrd (f :: r)=d
  cases a<;>cases c<;>cases d<;>rfl
theorem fits_go {F:List Sq} {L:List Fl} (lL:L.length < 33):∀ (suf pre:List Fl) (t3 t4 t5 t6:Sl),L=pre++suf →
  ∃ E,forL (gN 3) b_law_fits_1 ((List.range' pre.length suf.length).map fun (i:Nat)=>D.int (i:Int)) [.fz (dL F),.fz (dFL L),.fz (dL (cover pre)),t3,t4,t5,t6]=(if chk pre.getLast? suf=true then .ok (.nx E) else .ok (.rt (.bl false)))/\∃ u3 u4 u5 u6,E=[.fz (dL F),.fz (dFL L),.fz (dL (cover L)),u3,u4,u5,u6]
 | [],pre,t3,t4,t5,t6,h=>by
  have:pre=L:=by simpa using h.symm
  subst this
  exact ⟨[.fz (dL F),.fz (dFL pre),.fz (dL (cover pre)),t3,t4,t5,t6],by simp [chk,forL],t3,t4,t5,t6,rfl⟩
 | f :: r,pre,t3,t4,t5,t6,h=>by
  have hn:pre.length < L.length:=by rw [h]; simp
  have ixn:fIx (dFL L) (.int (pre.length:Int))=some (dF f):=by
   rw [ix_F hn]
   congr 2
   simp [h]
  have lt:(cover pre).length + 2<=1000000:=by rw [lcov]; omega
  have hrng:(List.range' pre.length (f :: r).length).map (fun (i:Nat)=>D.int (i:Int))=D.int (pre.length:Int) :: (List.range' (pre++[f]).length r.length).map (fun (i:Nat)=>D.int (i:Int)):=by
   rw [List.length_cons,List.range'_succ,List.map_cons]
   simp
  have pv:pre.getLast?=none/\pre.length=0\/∃ g,pre.getLast?=some g/\0 < pre.length/\fIx (dFL L) (.int ((pre.length:Int) - 1))=some (dF g):=by
   cases hp:pre.getLast? with
   | none=>exact .inl ⟨rfl,by rw [List.getLast?_eq_none_iff.mp hp]; rfl⟩
   | some g =>
    refine .inr ⟨g,rfl,?_,?_⟩
    ·cases pre with
     | nil=>cases hp
     | cons _ _=>simp
    ·have h0:0 < pre.length:=by
      cases pre with
      | nil=>cases hp
      | cons _ _=>simp
     rw [show ((pre.length:Int) - 1)=((pre.length - 1:Nat):Int) by omega,ix_F (by omega)]
     rw [List.getLast?_eq_getElem?,List.getElem?_eq_getElem (by omega)] at hp
     congr 2
     have:=Option.some.inj hp
     rw [<-this]
     simp only [h]
     rw [List.getElem_append_left (by omega)]
  have sets:∀ (c:EX) (o:R Out),c [.fz (dL F),.fz (dFL L),.fz (dL (cover pre)),.fz (.int (pre.length:Int)),.fz (.int f.1),.fz (.int f.2.1),.fz (.int f.2.2)]=o->xSeq (xSet 4 (e2 fIx (e2 fIx (vE 1) (vE 3)) (kE (.int 0)))) (xSeq (xSet 5 (e2 fIx (e2 fIx (vE 1) (vE 3)) (kE (.int 1)))) (xSeq (xSet 6 (e2 fIx (e2 fIx (vE 1) (vE 3)) (kE (.int 2)))) c)) [.fz (dL F),.fz (dFL L),.fz (dL (cover pre)),.fz (.int (pre.length:Int)),t4,t5,t6]=o:=fun c o hc=>by
   refine seq_nx (E':=[.fz (dL F),.fz (dFL L),.fz (dL (cover pre)),.fz (.int (pre.length:Int)),.fz (.int f.1),t5,t6]) (set_ok (by show (ofO (fIx (dFL L) (.int (pre.length:Int))) >>= fun x=>ofO (fIx x (.int 0)))=_; rw [ixn]; rfl)) ?_
   refine seq_nx (E':=[.fz (dL F),.fz (dFL L),.fz (dL (cover pre)),.fz (.int (pre.length:Int)),.fz (.int f.1),.fz (.int f.2.1),t6]) (set_ok (by show (ofO (fIx (dFL L) (.int (pre.length:Int))) >>= fun x=>ofO (fIx x (.int 1)))=_; rw [ixn]; rfl)) ?_
   refine seq_nx (E':=[.fz (dL F),.fz (dFL L),.fz (dL (cover pre)),.fz (.int (pre.length:Int)),.fz (.int f.1),.fz (.int f.2.1),.fz (.int f.2.2)]) (set_ok (by show (ofO (fIx (dFL L) (.int (pre.length:Int))) >>= fun x=>ofO (fIx x (.int 2)))=_; rw [ixn]; rfl)) ?_
   exact hc
  have test:bOr (bAnd (tstB (e2 fNe (vE 6) (kE (.int 0)))) (tstB (e2 fNe (vE 6) (kE (.int 1))))) (bAnd (tstB (e2 fGt (vE 3) (kE (.int 0)))) (tstB (e2 fGe (eSl (e2 fIx (vE 1) (e2 fSub (vE 3) (kE (.int 1)))) (oNone) (oPart (kE (.int 2)))) (eSl (e2 fIx (vE 1) (vE 3)) (oNone) (oPart (kE (.int 2)))))))
    [.fz (dL F),.fz (dFL L),.fz (dL (cover pre)),.fz (.int (pre.length:Int)),.fz (.int f.1),.fz (.int f.2.1),.fz (.int f.2.2)]=.ok (!(wayOk f && (match pre.getLast? with | none=>true | some g=>decide (Slt (pos2 g) (pos2 f))))):=by
   unfold wayOk
   rcases pv with ⟨p1,p2⟩ | ⟨g,p1,p2,p3⟩
   ·rw [p1]
    by_cases h0:f.2.2=0
    ·simp [h0,p2]
    ·by_cases h1:f.2.2=1
     ·simp [h1,p2]
     ·simp [h0,h1]
   ·rw [p1]
    have hsl:∀ x:Fl,fSl (dF x) none (some 2)=some (.tup [.int x.1,.int x.2.1]):=fun _=>rfl
    by_cases h0:f.2.2=0
    ·simp [-fIx_l,h0,p2,p3,ixn,hsl,pos2]
     exact decide_eq_decide.2 Iff.rfl
    ·by_cases h1:f.2.2=1
     ·simp [-fIx_l,h1,p2,p3,ixn,hsl,pos2]
      exact decide_eq_decide.2 Iff.rfl
     ·simp [h0,h1]
  have bad:(wayOk f && (match pre.getLast? with | none=>true | some g=>decide (Slt (pos2 g) (pos2 f))))=false->forL (gN 3) b_law_fits_1 (D.int (pre.length:Int) :: (List.range' (pre++[f]).length r.length).map (fun (i:Nat)=>D.int (i:Int))) [.fz (dL F),.fz (dFL L),.fz (dL (cover pre)),t3,t4,t5,t6]=.ok (.rt (.bl false)):=fun hb=>by
   have e:b_law_fits_1 [.fz (dL F),.fz (dFL L),.fz (dL (cover pre)),.fz (.int (pre.length:Int)),t4,t5,t6]=.ok (.rt (.bl false)):=by
    refine sets _ _ ?_
    rw [hb] at test
    show (xIf _ _ _ _ >>= _)=_
    simp only [xIf_e,test]
    rfl
   show (b_law_fits_1 [.fz (dL F),.fz (dFL L),.fz (dL (cover pre)),.fz (.int (pre.length:Int)),t4,t5,t6] >>= _)=_
   rw [e]
   rfl
  have good:(wayOk f && (match pre.getLast? with | none=>true | some g=>decide (Slt (pos2 g) (pos2 f))))=true->b_law_fits_1 [.fz (dL F),.fz (dFL L),.fz (dL (cover pre)),.fz (.int (pre.length:Int)),t4,t5,t6]=.ok (.nx [.fz (dL F),.fz (dFL L),.fz (dL (cover (pre++[f]))),.fz (.int (pre.length:Int)),.fz (.int f.1),.fz (.int f.2.1),.fz (.int f.2.2)]):=fun hg=>by
   refine sets _ _ ?_
   rw [hg] at test
   have hwf:wayOk f=true:=(Bool.and_eq_true_iff.mp hg).1
   have hw:f.2.2=0\/f.2.2=1:=of_decide_eq_true hwf
   have mt:(f.1 + f.2.2,f.2.1 + 1 - f.2.2)=mate f:=by
    unfold mate
    rcases hw with e | e<;>rw [e]<;>simp
   have e2:cover (pre++[f])=cover pre++[(f.1,f.2.1),(f.1 + f.2.2,f.2.1 + 1 - f.2.2)]:=by
    rw [mt]; unfold cover; simp [cells,pos2]
   refine seq_nx (E':=[.fz (dL F),.fz (dFL L),.fz (dL (cover pre)),.fz (.int (pre.length:Int)),.fz (.int f.1),.fz (.int f.2.1),.fz (.int f.2.2)]) (if_nil test) ?_
   rw [e2]
   simp [show (cover pre).length + 2<=1000000 from lt]
  rw [hrng]
  obtain ⟨E,e1,u3,u4,u5,u6,e2⟩:=fits_go lL r (pre++[f]) (.fz (.int (pre.length:Int))) (.fz (.int f.1)) (.fz (.int f.2.1)) (.fz (.int f.2.2)) (by rw [h]; simp)
  refine ⟨E,?_,u3,u4,u5,u6,e2⟩
  rw [show chk pre.getLast? (f :: r)=((wayOk f && (match pre.getLast? with | none=>true | some g=>decide (Slt (pos2 g) (pos2 f)))) && chk (some f) r) from by cases pre.getLast?<;>rfl]
  have hl:(pre++[f]).getLast?=some f:=by simp
  rw [hl] at e1
  cases hc:(wayOk f && (match pre.getLast? with | none=>true | some g=>decide (Slt (pos2 g) (pos2 f)))) with
  | false =>
   rw [Bool.false_and,if_neg (by simp)]
   exact bad hc
  | true =>
   rw [Bool.true_and]
   exact (forL_nx (set:=gN 3) rfl (good hc)).trans e1
theorem rng_range' (n:Nat):(rng 0 (n:Int)).map D.int=(List.range' 0 n).map fun (i:Nat)=>D.int (i:Int):=by
 unfold rng
 rw [List.map_map,List.range_eq_range']
 simp
theorem fits_d (F:List Sq) {L:List Fl} (lL:L.length < 33):dn_law_fits [dL F,dFL L]=.ok (.bl ((L.all wayOk) && (inOrd L && decide (sortS (cover L)=F)))):=by
 obtain ⟨E,eL,u3,u4,u5,u6,rfl⟩:=fits_go (F:=F) lL L [] .un .un .un .un rfl
 have hc:chk ([]:List Fl).getLast? L=(L.all wayOk && inOrd L):=chk_none L
 rw [hc] at eL
 have hs:=fSort_S65 (cover L) (by rw [lcov]; omega)
 have key:m_law_fits [.fz (dL F),.fz (dFL L),.un,.un,.un,.un,.un]=.ok (.rt (.bl ((L.all wayOk) && (inOrd L && decide (sortS (cover L)=F))))):=by
  unfold m_law_fits
  refine seq_nx (E':=[.fz (dL F),.fz (dFL L),.fz (dL []),.un,.un,.un,.un]) (set_ok (by rfl)) ?_
  have hr:iR1 (e1 fLen (vE 1)) [.fz (dL F),.fz (dFL L),.fz (dL []),.un,.un,.un,.un]=.ok ((List.range' 0 L.length).map fun (i:Nat)=>D.int (i:Int)):=by
   rw [<-rng_range']
   simp [show L.length < 1000000 by omega]
  show ((iR1 (e1 fLen (vE 1)) _ >>= fun ds=>forL (gN 3) b_law_fits_1 ds _) >>= _)=_
  rw [hr]
  simp only [R.ok_bind]
  rw [show forL (gN 3) b_law_fits_1 ((List.range' 0 L.length).map fun (i:Nat)=>D.int (i:Int)) [.fz (dL F),.fz (dFL L),.fz (dL []),.un,.un,.un,.un]=_ from eL]
  cases hb:(L.all wayOk && inOrd L) with
  | true =>
   obtain ⟨b1,b2⟩:=Bool.and_eq_true_iff.mp hb
   rw [if_pos rfl,b1,b2]
   simp [hs]
  | false =>
   rw [if_neg (by simp),<-Bool.and_assoc,hb]
   rfl
 exact (congrArg ended key).trans rfl
theorem rng_at {a b:Int} {pre post:List Int} {x:Int} (e:rng a b=pre++x :: post):x=a + (pre.length:Int):=by
 have h:(rng a b)[pre.length]?=some x:=by rw [e]; simp
 unfold rng at h
 rw [List.getElem?_map] at h
 cases q:(List.range (b - a).toNat)[pre.length]? with
 | none=>rw [q] at h; cases h
 | some y =>
  rw [q] at h
  obtain ⟨h1,h2⟩:=List.getElem?_eq_some_iff.mp q
  rw [List.getElem_range] at h2
  simp at h
  omega
theorem law_floor_d (ns:List Int):∃ F:List Sq,dn_law_floor [.scr ns]=.ok (dL F)/\IsFloor F/\F.length<=64:=by
 have c0:dn_law_cell_at [.scr ns,.int 0]=_:=cell_d ns 0
 have c1:dn_law_cell_at [.scr ns,.int 1]=_:=cell_d ns 1
 have c2:dn_law_cell_at [.scr ns,.int 2]=_:=cell_d ns 2
 generalize ns.getD 0 0=head at c0
 generalize ns.getD 1 0=num at c1
 generalize ns.getD 2 0=rg at c2
 obtain ⟨P,hP⟩:∃ P:R Out->Prop,P=fun r=>∃ F:List Sq,ended r=.ok (dL F)/\IsFloor F/\F.length<=64:=⟨_,rfl⟩
 suffices h:P (m_law_floor [.fz (.scr ns),.un,.un,.un,.un,.un,.un,.un,.un,.un]) by rw [hP] at h; exact h
 unfold m_law_floor
 generalize hh:1 + head % 8=high
 generalize hw:1 + head / 8 % 8=wide
 have bh:1<=high/\high<=8:=by omega
 have bw:1<=wide/\wide<=8:=by omega
 have hn:high * wide<=64:=by
  have:=Int.mul_le_mul bh.2 bw.2 (by omega) (by omega)
  omega
 have hn0:0<=high * wide:=Int.mul_nonneg (by omega) (by omega)
 have h9:high < 9:=by omega
 have h9':wide < 9:=by omega
 have hm:high.natAbs < 9223372036854775808:=by omega
 have hmm:(high * wide).natAbs < 1000000:=by omega
 have hwpos:0 < wide:=by omega
 have hwlt:wide < 1073741824:=by omega
 generalize ht:head / 64 % (9 - high)=top
 generalize hl:head / 512 % (9 - wide)=left
 have bt:0<=top/\top < 9 - high:=by rw [<-ht]; exact ⟨Int.emod_nonneg _ (by omega),Int.emod_lt_of_pos _ (by omega)⟩
 have bl:0<=left/\left < 9 - wide:=by rw [<-hl]; exact ⟨Int.emod_nonneg _ (by omega),Int.emod_lt_of_pos _ (by omega)⟩
 generalize hnum:1 + num % 2147483646=number
 refine seqP [.fz (.scr ns),.fz (.int head),.un,.un,.un,.un,.un,.un,.un,.un] P (set_ok (by simp [c0])) ?_
 refine seqP [.fz (.scr ns),.fz (.int head),.fz (.int high),.un,.un,.un,.un,.un,.un,.un] P (set_ok (by simp [hh])) ?_
 refine seqP [.fz (.scr ns),.fz (.int head),.fz (.int high),.fz (.int wide),.un,.un,.un,.un,.un,.un] P (set_ok (by simp [hw])) ?_
 refine seqP [.fz (.scr ns),.fz (.int head),.fz (.int high),.fz (.int wide),.fz (.int top),.un,.un,.un,.un,.un] P (set_ok (by simp [h9,ht])) ?_
 refine seqP [.fz (.scr ns),.fz (.int head),.fz (.int high),.fz (.int wide),.fz (.int top),.fz (.int left),.un,.un,.un,.un] P (set_ok (by simp [h9',hl])) ?_
 obtain ⟨sh,esh,bsh⟩:∃ sh:Int,(e2 fIx (eLst (aCons (kE (.int 4)) (aCons (kE (.int 4)) (aCons (kE (.int 8)) (aNil))))) (e2 fMod (eCall 2 dn_law_cell_at (aCons (vF 0) (aCons (kE (.int 2)) (aNil)))) (kE (.int 3)))) [.fz (.scr ns),.fz (.int head),.fz (.int high),.fz (.int wide),.fz (.int top),.fz (.int left),.un,.un,.un,.un]=.ok (.int sh)/\0 < sh/\sh < 1073741824:=by
  have h3:rg % 3=0\/rg % 3=1\/rg % 3=2:=by omega
  rcases h3 with h3 | h3 | h3
  ·exact ⟨4,by simp [c2,h3,atI,ixN],by decide⟩
  ·exact ⟨4,by simp [c2,h3,atI,ixN],by decide⟩
  ·exact ⟨8,by simp [c2,h3,atI,ixN],by decide⟩
 obtain ⟨hs0,hs1⟩:=bsh
 refine seqP [.fz (.scr ns),.fz (.int head),.fz (.int high),.fz (.int wide),.fz (.int top),.fz (.int left),.fz (.int sh),.un,.un,.un] P (set_ok esh) ?_
 refine seqP [.fz (.scr ns),.fz (.int head),.fz (.int high),.fz (.int wide),.fz (.int top),.fz (.int left),.fz (.int sh),.fz (.int number),.un,.un] P (set_ok (by simp [c1,hnum])) ?_
 refine seqP [.fz (.scr ns),.fz (.int head),.fz (.int high),.fz (.int wide),.fz (.int top),.fz (.int left),.fz (.int sh),.fz (.int number),.ow (dL []),.un] P (by rfl) ?_
 obtain ⟨E1,e1,nb,F,t8,rfl,hF⟩:=forL_pre (set:=gN 9) (b:=b_law_floor_1) D.int (fun (pre:List Int) E=>∃ (nb:Int) (F:List Sq) (t8:Sl),E=[.fz (.scr ns),.fz (.int head),.fz (.int high),.fz (.int wide),.fz (.int top),.fz (.int left),.fz (.int sh),.fz (.int nb),.ow (dL F),t8]/\F.Sublist (pre.map fun k=>(top + k / wide,left + k % wide))) (rng 0 (high * wide)) (by
  rintro pre k post epre E ⟨nb,F,t8,rfl,hF⟩
  refine ⟨_,rfl,?_⟩
  have lp:F.length < 1000000:=by
   have h1:=hF.length_le
   have h2:=congrArg List.length epre
   rw [rng_length] at h2
   simp at h1 h2; omega
  by_cases h1:0 < nb * 48271 % 2147483647 / 7 % sh
  ·refine goes_mk (E:=[.fz (.scr ns),.fz (.int head),.fz (.int high),.fz (.int wide),.fz (.int top),.fz (.int left),.fz (.int sh),.fz (.int (nb * 48271 % 2147483647)),.ow (dL (F++[(top + k / wide,left + k % wide)])),.fz (.int k)]) ⟨_,_,_,rfl,?_⟩ ?_
   ·rw [List.map_append]
    exact hF.append (List.Sublist.refl _)
   ·simp [b_law_floor_1,hwlt,hwpos,hs0,hs1,lp,h1]
  ·refine goes_mk (E:=[.fz (.scr ns),.fz (.int head),.fz (.int high),.fz (.int wide),.fz (.int top),.fz (.int left),.fz (.int sh),.fz (.int (nb * 48271 % 2147483647)),.ow (dL F),.fz (.int k)]) ⟨_,_,_,rfl,?_⟩ ?_
   ·rw [List.map_append]
    exact hF.trans (List.sublist_append_left _ _)
   ·simp [b_law_floor_1,hs0,hs1,h1]) [.fz (.scr ns),.fz (.int head),.fz (.int high),.fz (.int wide),.fz (.int top),.fz (.int left),.fz (.int sh),.fz (.int number),.ow (dL []),.un] ⟨_,_,_,rfl,by simp⟩
 rw [hP]
 refine ⟨F,?_,sub_floor hF (place_sorted hwpos _) (place_on hwpos bt.1 bl.1 (by omega) (by omega)),?_⟩
 ·simp [hm,hmm]
  rw [e1]
  simp [frz_e]
 ·have h1:=hF.length_le
  rw [List.length_map,rng_length] at h1
  omega
theorem even_d {F:List Sq} (hF:IsFloor F) (hl:F.length<=64):∃ G:List Sq,dn_law_even [dL F]=.ok (dL G)/\IsFloor G/\G.length<=64:=by
 have lF:F.length<=1000000:=by omega
 have ec:=compL_ok (set:=gN 1) (mt:=tstB (e2 fEq (e2 fMod (e2 fAdd (e2 fIx (vE 1) (kE (.int 0))) (e2 fIx (vE 1) (kE (.int 1)))) (kE (.int 2))) (kE (.int 0)))) (me:=vF 1) (E:=clr [1] [.fz (dL F),.un,.un,.un,.un,.un,.un]) dS (fun s=>decide ((s.1 + s.2) % 2=0)) dS F (fun x hx=>⟨_,rfl,by simp [clr],fun _=>by simp [clr]⟩)
 obtain ⟨P,hP⟩:∃ P:R Out->Prop,P=fun r=>∃ G:List Sq,ended r=.ok (dL G)/\IsFloor G/\G.length<=64:=⟨_,rfl⟩
 suffices h:P (m_law_even [.fz (dL F),.un,.un,.un,.un,.un,.un]) by rw [hP] at h; exact h
 unfold m_law_even
 generalize hq:(F.filter fun s=>decide ((s.1 + s.2) % 2=0))=Q at ec
 have lQ:Q.length<=64:=by rw [<-hq]; exact Nat.le_trans (List.length_filter_le _ _) hl
 refine seqP [.fz (dL F),.un,.fz (.int Q.length),.un,.un,.un,.un] P (set_ok (by simp [noOw,lF]; rw [ec]; simp)) ?_
 generalize hm:(if (F.length:Int) - Q.length < Q.length then (F.length:Int) - Q.length else Q.length)=least
 refine seqP [.fz (dL F),.un,.fz (.int Q.length),.fz (.int least),.un,.un,.un] P (set_ok (by simp [hm])) ?_
 refine seqP [.fz (dL F),.un,.fz (.int Q.length),.fz (.int least),.ow (.lst [.int 0,.int 0]),.un,.un] P (by rfl) ?_
 refine seqP [.fz (dL F),.un,.fz (.int Q.length),.fz (.int least),.ow (.lst [.int 0,.int 0]),.ow (dL []),.un] P (by rfl) ?_
 obtain ⟨E1,e1,t1,a,b,G,t6,rfl,hG⟩:=forL_pre (set:=gN 1) (b:=b_law_even_1) dS (fun (pre:List Sq) E=>∃ (t1:Sl) (a b:Int) (G:List Sq) (t6:Sl),E=[.fz (dL F),t1,.fz (.int Q.length),.fz (.int least),.ow (.lst [.int a,.int b]),.ow (dL G),t6]/\G.Sublist pre) F (by
  rintro pre s post epre E ⟨t1,a,b,G,t6,rfl,hG⟩
  refine ⟨_,rfl,?_⟩
  have lp:G.length < 1000000:=by
   have h1:=hG.length_le
   have h2:=congrArg List.length epre
   simp at h2; omega
  have h2:(s.1 + s.2) % 2=0\/(s.1 + s.2) % 2=1:=by omega
  rcases h2 with h2 | h2
  ·by_cases h1:a + 1<=least
   ·exact goes_mk (E:=[.fz (dL F),.fz (dS s),.fz (.int Q.length),.fz (.int least),.ow (.lst [.int (a + 1),.int b]),.ow (dL (G++[s])),.fz (.int 0)]) ⟨_,_,_,_,_,rfl,hG.append (List.Sublist.refl _)⟩ (by simp [b_law_even_1,h2,h1,lp,atI,ixN,xLput])
   ·exact goes_mk (E:=[.fz (dL F),.fz (dS s),.fz (.int Q.length),.fz (.int least),.ow (.lst [.int (a + 1),.int b]),.ow (dL G),.fz (.int 0)]) ⟨_,_,_,_,_,rfl,hG.trans (List.sublist_append_left _ _)⟩ (by simp [b_law_even_1,h2,h1,atI,ixN,xLput])
  ·by_cases h1:b + 1<=least
   ·exact goes_mk (E:=[.fz (dL F),.fz (dS s),.fz (.int Q.length),.fz (.int least),.ow (.lst [.int a,.int (b + 1)]),.ow (dL (G++[s])),.fz (.int 1)]) ⟨_,_,_,_,_,rfl,hG.append (List.Sublist.refl _)⟩ (by simp [b_law_even_1,h2,h1,lp,atI,ixN,xLput])
   ·exact goes_mk (E:=[.fz (dL F),.fz (dS s),.fz (.int Q.length),.fz (.int least),.ow (.lst [.int a,.int (b + 1)]),.ow (dL G),.fz (.int 1)]) ⟨_,_,_,_,_,rfl,hG.trans (List.sublist_append_left _ _)⟩ (by simp [b_law_even_1,h2,h1,atI,ixN,xLput])) [.fz (dL F),.un,.fz (.int Q.length),.fz (.int least),.ow (.lst [.int 0,.int 0]),.ow (dL []),.un] ⟨_,_,_,_,_,rfl,by simp⟩
 rw [hP]
 refine ⟨G,?_,⟨hF.ord.sublist hG,fun s hs=>hF.on s (hG.subset hs)⟩,Nat.le_trans hG.length_le hl⟩
 simp
 rw [e1]
 simp [frz_e]
theorem inOrd_of {L:List Fl} (h:L.Pairwise fun a b=>Slt (pos2 a) (pos2 b)):inOrd L=true:=by
 unfold inOrd
 rw [List.all_eq_true]
 intro p hp
 obtain ⟨i,hi,e⟩:=List.mem_iff_getElem.mp hp
 rw [List.pairwise_iff_getElem] at h
 simp at hi
 have:=h i (i + 1) (by omega) (by omega) (by omega)
 rw [<-e]
 simp only [List.getElem_zip,List.getElem_drop,Nat.add_comm 1 i]
 simpa using this
theorem places_S {W:List Sq}:dn_law_places [dL W,.int 2]=.ok (.bl true):=by
 have i1:∀ s:Sq,fIsi .tuple (dS s)=some (.bl true):=fun _=>rfl
 have i2:∀ z:Int,fIsi .int (.int z)=some (.bl true):=fun _=>rfl
 have i3:∀ z:Int,fIsi .bool (.int z)=some (.bl false):=fun _=>rfl
 have i0:fIsi .list (dL W)=some (.bl true):=rfl
 obtain ⟨E1,e1,t2,t3,rfl⟩:=forL_fold (set:=gN 2) (b:=b_law_places_1) dS (fun (_:Unit) _=>()) (fun _ E=>∃ t2 t3,E=[.fz (dL W),.fz (.int 2),t2,t3]) W () [.fz (dL W),.fz (.int 2),.un,.un] (by
  rintro _ E ⟨t2,t3,rfl⟩ s hs
  refine ⟨_,rfl,goes_mk (E:=[.fz (dL W),.fz (.int 2),.fz (dS s),.fz (.int s.2)]) ⟨_,_,rfl⟩ ?_⟩
  simp [b_law_places_1,b_law_places_2,i1,i2,i3,iT,forL]) ⟨_,_,rfl⟩
 unfold dn_law_places m_law_places
 simp [i0]
 rw [e1]
 simp
theorem places_F {L:List Fl}:dn_law_places [dFL L,.int 3]=.ok (.bl true):=by
 have i1:∀ s:Fl,fIsi .tuple (dF s)=some (.bl true):=fun _=>rfl
 have i2:∀ z:Int,fIsi .int (.int z)=some (.bl true):=fun _=>rfl
 have i3:∀ z:Int,fIsi .bool (.int z)=some (.bl false):=fun _=>rfl
 have i0:fIsi .list (dFL L)=some (.bl true):=rfl
 obtain ⟨E1,e1,t2,t3,rfl⟩:=forL_fold (set:=gN 2) (b:=b_law_places_1) dF (fun (_:Unit) _=>()) (fun _ E=>∃ t2 t3,E=[.fz (dFL L),.fz (.int 3),t2,t3]) L () [.fz (dFL L),.fz (.int 3),.un,.un] (by
  rintro _ E ⟨t2,t3,rfl⟩ s hs
  refine ⟨_,rfl,goes_mk (E:=[.fz (dFL L),.fz (.int 3),.fz (dF s),.fz (.int s.2.2)]) ⟨_,_,rfl⟩ ?_⟩
  simp [b_law_places_1,b_law_places_2,i1,i2,i3,iT,forL]) ⟨_,_,rfl⟩
 unfold dn_law_places m_law_places
 simp [i0]
 rw [e1]
 simp
theorem dput_in {q:Sq} {R:List Sq} (h:q ∈ R):dput (tD R) [q.1,q.2] (.bl true)=tD R:=by
 unfold dput
 have:((tD R).any fun kv=>decide (kv.1=[q.1,q.2]))=true:=by
  rw [List.any_eq_true]
  exact ⟨([q.1,q.2],.bl true),List.mem_map.mpr ⟨q,h,rfl⟩,by simp⟩
 rw [if_pos this,List.map_map]
 refine List.map_congr_left fun s _=>?_
 show (if [s.1,s.2]=[q.1,q.2] then ([s.1,s.2],D.bl true) else ([s.1,s.2],D.bl true))=_
 split<;>rfl
structure Arnd (F T R:List Sq):Prop where
 nd:R.Nodup
 sub:∀ x ∈ R,x ∈ T
theorem fence_in {F W T:List Sq} (lT:T.length<=1000):∀ (os:List Sq) (Rs:List Sq) (x3 x4 x5 x6:Sl),(∀ o ∈ os,o ∈ F->o ∈ T)->Arnd F T Rs →
  ∃ Rs' y6,forL (gN 6) b_law_is_fence_2 (os.map dS) [.fz (dL F),.fz (dL W),.ow (.dic (tD Rs)),x3,x4,x5,x6]=.ok (.nx [.fz (dL F),.fz (dL W),.ow (.dic (tD Rs')),x3,x4,x5,y6])/\Arnd F T Rs'
 | [],Rs,x3,x4,x5,x6,_,hR=>⟨Rs,x6,rfl,hR⟩
 | o :: os,Rs,x3,x4,x5,x6,ho,hR=>by
  have lR:Rs.length < 1000000:=by have:=nodup_len hR.nd hR.sub; omega
  have hi:tstB (e2 fIn (vE 6) (vE 0)) [.fz (dL F),.fz (dL W),.ow (.dic (tD Rs)),x3,x4,x5,.fz (dS o)]=.ok (decide (o ∈ F)):=by
   have:=fIn_S o F
   simp [this]
  have rest:=fun Rs'=>fence_in (F:=F) (W:=W) (T:=T) lT os Rs' x3 x4 x5 (.fz (dS o)) (fun q hq=>ho q (List.mem_cons_of_mem _ hq))
  rw [List.map_cons]
  by_cases hF:o ∈ F
  ·have oT:=ho o List.mem_cons_self hF
   have step:∀ Rs',dput (tD Rs) [o.1,o.2] (.bl true)=tD Rs'->b_law_is_fence_2 [.fz (dL F),.fz (dL W),.ow (.dic (tD Rs)),x3,x4,x5,.fz (dS o)]=.ok (.nx [.fz (dL F),.fz (dL W),.ow (.dic (tD Rs')),x3,x4,x5,.fz (dS o)]):=fun Rs' e=>by
    unfold b_law_is_fence_2 xIf
    rw [hi]
    simp only [hF,decide_true,R.ok_bind,if_true]
    show (if (tD Rs).length < 1000000 then R.ok (Out.nx [.fz (dL F),.fz (dL W),.ow (.dic (dput (tD Rs) [o.1,o.2] (.bl true))),x3,x4,x5,.fz (dS o)]) else .no)=_
    rw [if_pos (by simpa using lR),e]
   by_cases hin:o ∈ Rs
   ·rw [forL_nx (set:=gN 6) (E1:=[.fz (dL F),.fz (dL W),.ow (.dic (tD Rs)),x3,x4,x5,.fz (dS o)]) rfl (step Rs (dput_in hin))]
    exact rest Rs hR
   ·rw [forL_nx (set:=gN 6) (E1:=[.fz (dL F),.fz (dL W),.ow (.dic (tD Rs)),x3,x4,x5,.fz (dS o)]) rfl (step (Rs++[o]) (dput_D o Rs hin))]
    have k:=tok_snoc (U:=T) hR.nd hR.sub hin oT
    exact rest (Rs++[o]) ⟨k.nd,k.sub⟩
  ·rw [forL_nx (set:=gN 6) (E1:=[.fz (dL F),.fz (dL W),.ow (.dic (tD Rs)),x3,x4,x5,.fz (dS o)]) (E2:=[.fz (dL F),.fz (dL W),.ow (.dic (tD Rs)),x3,x4,x5,.fz (dS o)]) rfl]
   ·exact rest Rs hR
   ·unfold b_law_is_fence_2
    exact if_nil (by rw [hi]; simp [hF])
theorem fence_d {F W:List Sq} (hW:Wall F W) (lW:W.length<=64):dn_law_is_fence [dL F,dL W]=.ok (.bl true):=by
 obtain ⟨T,hT,lT⟩:=hW.few
 obtain ⟨p,hp⟩:=hW.par
 have lT':T.length<=1000:=by omega
 have ix:∀ (n:Nat) (hn:n < W.length),fIx (dL W) (.int n)=some (dS W[n]):=fun n hn=>by
  rw [fIx_l]
  refine atI_nat ?_
  rw [List.getElem?_map]
  simp [hn]
 obtain ⟨E1,e1,R,t3,t4,t5,t6,rfl,hR⟩:=forL_pre (set:=gN 3) (b:=b_law_is_fence_1) D.int (fun (pre:List Int) E=>∃ R t3 t4 t5 t6,E=[.fz (dL F),.fz (dL W),.ow (.dic (tD R)),t3,t4,t5,t6]/\Arnd F T R) (rng 0 W.length) (by
  rintro pre k post epre E ⟨R,t3,t4,t5,t6,rfl,hR⟩
  refine ⟨_,rfl,?_⟩
  have hk:=rng_at epre
  have hb:=rng_pre_sub epre
  rw [Int.zero_add] at hk
  subst hk
  have hn:pre.length < W.length:=by omega
  generalize hq:pre.length=n at *
  have ixn:=ix n hn
  have ix0:=ix 0 (by omega)
  generalize hs0:W[0]=s0 at ix0
  generalize hs:W[n]=s at ixn
  have hsm:s ∈ W:=by rw [<-hs]; exact List.getElem_mem hn
  have hs0m:s0 ∈ W:=by rw [<-hs0]; exact List.getElem_mem _
  have hmF:=hW.sub s hsm
  have par:(s.1 + s.2) % 2=(s0.1 + s0.2) % 2:=by rw [hp s hsm,hp s0 hs0m]
  obtain ⟨R',y6,eI,hR'⟩:=fence_in (F:=F) (W:=W) (T:=T) lT' [(s.1 - 1,s.2),(s.1 + 1,s.2),(s.1,s.2 - 1),(s.1,s.2 + 1)] R (.fz (.int n)) (.fz (.int s.1)) (.fz (.int s.2)) t6 (fun o ho hF=>by
   refine hT s hsm o (mem_nbL.mpr ⟨hF,?_⟩)
   simp only [List.mem_cons,List.not_mem_nil,or_false] at ho
   rcases ho with h | h | h | h
   ·exact .inl h
   ·exact .inr (.inr (.inr h))
   ·exact .inr (.inl h)
   ·exact .inr (.inr (.inl h))) hR
  refine goes_mk (E:=[.fz (dL F),.fz (dL W),.ow (.dic (tD R')),.fz (.int n),.fz (.int s.1),.fz (.int s.2),y6]) ⟨_,_,_,_,_,rfl,hR'⟩ ?_
  unfold b_law_is_fence_1
  refine seq_nx (E':=[.fz (dL F),.fz (dL W),.ow (.dic (tD R)),.fz (.int n),.fz (.int s.1),t5,t6]) (set_ok (by show (ofO (fIx (dL W) (.int n)) >>= fun x=>ofO (fIx x (.int 0)))=_; rw [ixn]; rfl)) ?_
  refine seq_nx (E':=[.fz (dL F),.fz (dL W),.ow (.dic (tD R)),.fz (.int n),.fz (.int s.1),.fz (.int s.2),t6]) (set_ok (by show (ofO (fIx (dL W) (.int n)) >>= fun x=>ofO (fIx x (.int 1)))=_; rw [ixn]; rfl)) ?_
  have nin:=fNotIn_S s F
  refine seq_nx (E':=[.fz (dL F),.fz (dL W),.ow (.dic (tD R)),.fz (.int n),.fz (.int s.1),.fz (.int s.2),t6]) (if_nil ?_) ?_
  ·by_cases h0:n=0
   ·subst h0
    have ixn':fIx (dL W) (.int 0)=some (dS s):=ixn
    simp [-fIx_l,ixn',nin,hmF]
   ·have ixp:fIx (dL W) (.int ((n:Int) - 1))=some (dS W[n - 1]):=by
     rw [show ((n:Int) - 1)=((n - 1:Nat):Int) by omega]
     exact ix (n - 1) (by omega)
    have lt:Slt W[n - 1] s:=by
     have:=hW.srt
     rw [List.pairwise_iff_getElem] at this
     have:=this (n - 1) n (by omega) hn (by omega)
     rw [hs] at this; exact this
    generalize W[n - 1]=g at ixp lt
    have ge:=fGe_S g s
    simp [-fIx_l,ixn,ixp,nin,hmF,ge,lt]
  refine seq_nx (E':=[.fz (dL F),.fz (dL W),.ow (.dic (tD R)),.fz (.int n),.fz (.int s.1),.fz (.int s.2),t6]) (if_nil ?_) ?_
  ·have ix0':fIx (dL W) (.int 0)=some (dS s0):=ix0
   simp [-fIx_l,ix0',par]
  ·unfold xFor
   have:iD (eLst (aCons (eTup (aCons (e2 fSub (vE 4) (kE (.int 1))) (aCons (vF 5) (aNil)))) (aCons (eTup (aCons (e2 fAdd (vE 4) (kE (.int 1))) (aCons (vF 5) (aNil)))) (aCons (eTup (aCons (vF 4) (aCons (e2 fSub (vE 5) (kE (.int 1))) (aNil)))) (aCons (eTup (aCons (vF 4) (aCons (e2 fAdd (vE 5) (kE (.int 1))) (aNil)))) (aNil)))))) [.fz (dL F),.fz (dL W),.ow (.dic (tD R)),.fz (.int n),.fz (.int s.1),.fz (.int s.2),t6]=.ok ([(s.1 - 1,s.2),(s.1 + 1,s.2),(s.1,s.2 - 1),(s.1,s.2 + 1)].map dS):=by simp
   rw [this]
   exact eI) [.fz (dL F),.fz (dL W),.ow (.dic (tD [])),.un,.un,.un,.un] ⟨_,_,_,_,_,rfl,⟨List.nodup_nil,fun x hx=>by cases hx⟩⟩
 have lR:R.length < W.length:=by have:=nodup_len hR.nd hR.sub; omega
 unfold dn_law_is_fence m_law_is_fence
 simp [show W.length < 1000000 by omega]
 rw [show forL (gN 3) b_law_is_fence_1 (List.map D.int (rng 0 W.length)) [.fz (dL F),.fz (dL W),.ow (.dic []),.un,.un,.un,.un]=_ from e1]
 have fl:fLen (.dic (tD R))=some (.int R.length):=by simp [fLen]
 simp [fl,lR]
theorem law_true:∀ ns:List Int,ns.length<=63->dn_law [.scr ns]=.ok (.bl true):=by
 intro ns _
 obtain ⟨F0,e0,hF0,hl0⟩:=law_floor_d ns
 obtain ⟨G,eG,hG,lG⟩:=even_d hF0 hl0
 have c3:dn_law_cell_at [.scr ns,.int 3]=_:=cell_d ns 3
 generalize ns.getD 3 0=z3 at c3
 obtain ⟨P,hP⟩:∃ P:R Out->Prop,P=fun r=>ended r=.ok (.bl true):=⟨_,rfl⟩
 suffices h:P (m_law [.fz (.scr ns),.un,.un,.un]) by rw [hP] at h; exact h
 unfold m_law
 refine seqP [.fz (.scr ns),.fz (dL F0),.un,.un] P (set_ok (by simp [e0])) ?_
 obtain ⟨F,hF,hl,eF⟩:∃ F:List Sq,IsFloor F/\F.length<=64/\xIf (tstB (e2 fEq (e2 fMod (eCall 2 dn_law_cell_at (aCons (vF 0) (aCons (kE (.int 3)) (aNil)))) (kE (.int 3))) (kE (.int 1)))) (xSet 1 (eCall 1 dn_law_even (aCons (vF 1) (aNil)))) (xNil) [.fz (.scr ns),.fz (dL F0),.un,.un]=.ok (.nx [.fz (.scr ns),.fz (dL F),.un,.un]):=by
  by_cases h:z3 % 3=1
  ·exact ⟨G,hG,lG,by simp [c3,h,eG]⟩
  ·exact ⟨F0,hF0,hl0,by simp [c3,h]⟩
 refine seqP [.fz (.scr ns),.fz (dL F),.un,.un] P eF ?_
 refine seqP [.fz (.scr ns),.fz (dL F),.fz (dL F),.un] P (set_ok (by simp)) ?_
 have i0:∀ ds:List D,fIsi .tuple (.tup ds)=some (.bl true):=fun _=>rfl
 rcases lay_d hF hl with ⟨L,eL,hL⟩ | ⟨W,eW,hW,lW⟩
 ·have lL:L.length < 33:=by
   have h1:=hL.cov.length_eq
   rw [lcov] at h1
   omega
  have ft:=fits_d F lL
  have way:L.all wayOk=true:=List.all_eq_true.mpr fun f hf=>decide_eq_true (hL.way f hf)
  rw [way,inOrd_of hL.ord,sortS_of hF.ord hL.cov] at ft
  have ft:dn_law_fits [dL F,dFL L]=.ok (.bl true):=by rw [ft]; simp
  refine seqP [.fz (.scr ns),.fz (dL F),.fz (dL F),.fz (.tup [.str "laid",dFL L])] P (set_ok (by simp [eL])) ?_
  refine seqP [.fz (.scr ns),.fz (dL F),.fz (dL F),.fz (.tup [.str "laid",dFL L])] P (if_nil (by simp [i0])) ?_
  have pl:=places_F (L:=L)
  have eq1:fEq (.str "laid") (.str "laid")=some (.bl true):=by first | rfl | (unfold fEq; simp [pl,eqb])
  rw [hP]
  simp [eq1,pl,ft]
 ·refine seqP [.fz (.scr ns),.fz (dL F),.fz (dL F),.fz (.tup [.str "wall",dL W])] P (set_ok (by simp [eW])) ?_
  refine seqP [.fz (.scr ns),.fz (dL F),.fz (dL F),.fz (.tup [.str "wall",dL W])] P (if_nil (by simp [i0])) ?_
  have pl:=places_S (W:=W)
  have fd:=fence_d hW lW
  have eq1:fEq (.str "wall") (.str "wall")=some (.bl true):=by first | rfl | (unfold fEq; simp [pl,eqb])
  have eq2:fEq (.str "wall") (.str "laid")=some (.bl false):=by first | rfl | (unfold fEq; simp [pl,eqb]; decide)
  rw [hP]
  simp [eq1,eq2,pl,fd]
end M

set_option maxHeartbeats 4000000
set_option Elab.async false
set_option linter.all false
set_option maxRecDepth 100000
namespace M
open PySem PySem.Spec PyProof.Rows L2
noncomputable def top (i:Nat):Stmt:=PySem.Challenge.pw_flagfloor_k03_whole_laid_or_a_wall.main.body.getD i (.Pass ⟨0,0,0,0⟩)
structure Txt (mg:Str->Option Value):Prop where
 g_SIDE:∃ t,mg "SIDE"=some (.int 8 t)
 g_zip:mg "zip"=none
 g_dict:mg "dict"=none
 g_len:mg "len"=none
 g_sorted:mg "sorted"=none
 g_min:mg "min"=none
 g_range:mg "range"=none
 g_isinstance:mg "isinstance"=none
 g_list:mg "list"=none
 g_tuple:mg "tuple"=none
 g_int:mg "int"=none
 g_bool:mg "bool"=none
section
variable {P:Program} {w:World} {K:PySem.W.Frag} {mg:Str->Option Value} {base:Heap}
noncomputable abbrev s_on_board:Stmt:=top 5
theorem sc_on_board:FnScope ["square"] ["square"] (defScope s_on_board):=⟨rfl,rfl,rfl,by decide +kernel,rfl,by decide +kernel,by decide +kernel⟩
theorem ok_on_board {f:Addr} {fd:FuncData} (Dn:Dfn K mg "on_board" s_on_board f fd) (T:Txt mg) :Cal P w K mg base "on_board" ["square"] 1 dn_on_board :=
 ⟨f,fd,Dn.mg,Dn.fn.kp,Dn.fn.binds fun _ _ _ _ _ _ us hl=>by obtain ⟨_,rfl⟩:=len1 hl; rfl,fn_okG Dn.fn sc_on_board fun cdv A outer s H E hr gd G hx =>
  sb_one (ss_ret (sf_and (sf_ch ch_le ch_ltI (SF.se (sf_int)) (SF.se (sf_at (se_var 0) (SF.se (sf_int)))) (SF.se (sf_gint T.g_SIDE (by rfl)))) (sf_one (sf_ch ch_le ch_ltI (SF.se (sf_int)) (SF.se (sf_at (se_var 0) (SF.se (sf_int)))) (SF.se (sf_gint T.g_SIDE (by rfl)))))))⟩
noncomputable abbrev s_check_floor:Stmt:=top 6
theorem sc_check_floor:FnScope ["floor","square","earlier","later"] ["floor"] (defScope s_check_floor):=⟨rfl,rfl,rfl,by decide +kernel,rfl,by decide +kernel,by decide +kernel⟩
theorem ok_check_floor {f:Addr} {fd:FuncData} (Dn:Dfn K mg "check_floor" s_check_floor f fd) (T:Txt mg) (C_on_board:Cal P w K mg base "on_board" ["square"] 1 dn_on_board):Cal P w K mg base "check_floor" ["floor"] 2 dn_check_floor :=
 ⟨f,fd,Dn.mg,Dn.fn.kp,Dn.fn.binds fun _ _ _ _ _ _ us hl=>by obtain ⟨_,rfl⟩:=len1 hl; rfl,fn_okG Dn.fn sc_check_floor fun cdv A outer s H E hr gd G hx =>
  sb_cons (ss_for gd (si_list (sf_var 0)) (sg_name gd 1) (fun _ e1=>sb_one (ss_if (st_not (st_val (SF.se (sf_cal (x:="on_board") (ps:=["square"]) (k:=1) (j:=1) (dn:=dn_on_board) (by exact C_on_board) (hx_of e1 hx) (by exact hr) (by decide) (by rfl) (sa_cons (sf_var 1) (sa_nil)))))) (sb_one (ss_never)) (sb_nil))))
  (sb_one (ss_for gd (si_zip  (by rfl) T.g_zip (sf_var 0) (sf_slice (se_var 0) (so_some (SF.se (sf_int))) (so_none))) (sg_two gd 2 3) (fun _ e2=>sb_one (ss_if (st_not (st_lt gd (se_var 2) (se_var 3))) (sb_one (ss_never)) (sb_nil)))))⟩
noncomputable abbrev s_marked:Stmt:=top 7
theorem sc_marked:FnScope ["floor","square"] ["floor"] (defScope s_marked):=⟨rfl,rfl,rfl,by decide +kernel,rfl,by decide +kernel,by decide +kernel⟩
theorem ok_marked {f:Addr} {fd:FuncData} (Dn:Dfn K mg "marked" s_marked f fd) (T:Txt mg) :Cal P w K mg base "marked" ["floor"] 1 dn_marked :=
 ⟨f,fd,Dn.mg,Dn.fn.kp,Dn.fn.binds fun _ _ _ _ _ _ us hl=>by obtain ⟨_,rfl⟩:=len1 hl; rfl,fn_okG Dn.fn sc_marked fun cdv A outer s H E hr gd G hx =>
  sb_one (ss_ret (SN.sf (sn_dict gd  (by rfl) T.g_dict (SN.se (sn_comp gd hx (si_list (sf_var 0)) (⟨cs_of rfl (by decide +kernel) (by decide +kernel) (by repeat first | exact True.intro | refine And.intro (by first | (intro h; exact absurd h (by decide)) | (intro _; exact Or.inl rfl) | (intro _; exact Or.inr rfl)) ?_),loc_of (N:=["floor","square"]) (by decide +kernel),hset_n _ ,fun _ _ _ _=>sg_name (gd_in gd) 1,fun _ _ _ _ _ e1=>sc_nil,fun _ _ _ _ _ e1=>sf_tup (sa_cons (sf_var 1) (sa_cons (sf_bl) (sa_nil)))⟩))))))⟩
noncomputable abbrev s_neighbours:Stmt:=top 8
theorem sc_neighbours:FnScope ["square","squares","row","column","near","other"] ["square","squares"] (defScope s_neighbours):=⟨rfl,rfl,rfl,by decide +kernel,rfl,by decide +kernel,by decide +kernel⟩
theorem ok_neighbours {f:Addr} {fd:FuncData} (Dn:Dfn K mg "neighbours" s_neighbours f fd) (T:Txt mg) :Cal P w K mg base "neighbours" ["square","squares"] 1 dn_neighbours :=
 ⟨f,fd,Dn.mg,Dn.fn.kp,Dn.fn.binds fun _ _ _ _ _ _ us hl=>by obtain ⟨_,_,rfl⟩:=len2 hl; rfl,fn_okG Dn.fn sc_neighbours fun cdv A outer s H E hr gd G hx =>
  sb_cons (ss_set 2 (sf_at (se_var 0) (SF.se (sf_int))) gd.nd)
  (sb_cons (ss_set 3 (sf_at (se_var 0) (SF.se (sf_int))) gd.nd)
  (sb_cons (ss_set 4 (SN.sf (sn_lst (sa_cons (sf_tup (sa_cons (sf_sub (se_var 2) (SF.se (sf_int))) (sa_cons (sf_var 3) (sa_nil)))) (sa_cons (sf_tup (sa_cons (sf_var 2) (sa_cons (sf_sub (se_var 3) (SF.se (sf_int))) (sa_nil)))) (sa_cons (sf_tup (sa_cons (sf_var 2) (sa_cons (sf_add (se_var 3) (SF.se (sf_int))) (sa_nil)))) (sa_cons (sf_tup (sa_cons (sf_add (se_var 2) (SF.se (sf_int))) (sa_cons (sf_var 3) (sa_nil)))) (sa_nil))))))) gd.nd)
  (sb_one (ss_ret (SN.sf (sn_comp gd hx (si_list (sf_var 4)) (⟨cs_of rfl (by decide +kernel) (by decide +kernel) (by repeat first | exact True.intro | refine And.intro (by first | (intro h; exact absurd h (by decide)) | (intro _; exact Or.inl rfl) | (intro _; exact Or.inr rfl)) ?_),loc_of (N:=["square","squares","row","column","near","other"]) (by decide +kernel),hset_n _ ,fun _ _ _ _=>sg_name (gd_in gd) 5,fun _ _ _ _ _ e1=>sc_one (st_din (gd_in gd) (se_var 5) (se_var 1)),fun _ _ _ _ _ e1=>sf_var 5⟩)))))))⟩
noncomputable abbrev s_half_of:Stmt:=top 10
theorem sc_half_of:FnScope ["floor","parity","square"] ["floor","parity"] (defScope s_half_of):=⟨rfl,rfl,rfl,by decide +kernel,rfl,by decide +kernel,by decide +kernel⟩
theorem ok_half_of {f:Addr} {fd:FuncData} (Dn:Dfn K mg "half_of" s_half_of f fd) (T:Txt mg) :Cal P w K mg base "half_of" ["floor","parity"] 1 dn_half_of :=
 ⟨f,fd,Dn.mg,Dn.fn.kp,Dn.fn.binds fun _ _ _ _ _ _ us hl=>by obtain ⟨_,_,rfl⟩:=len2 hl; rfl,fn_okG Dn.fn sc_half_of fun cdv A outer s H E hr gd G hx =>
  sb_one (ss_ret (SN.sf (sn_comp gd hx (si_list (sf_var 0)) (⟨cs_of rfl (by decide +kernel) (by decide +kernel) (by repeat first | exact True.intro | refine And.intro (by first | (intro h; exact absurd h (by decide)) | (intro _; exact Or.inl rfl) | (intro _; exact Or.inr rfl)) ?_),loc_of (N:=["floor","parity","square"]) (by decide +kernel),hset_n _ ,fun _ _ _ _=>sg_name (gd_in gd) 2,fun _ _ _ _ _ e1=>sc_one (st_eq (gd_in gd) (SF.se (sf_mod (SF.se (sf_add (SF.se (sf_at (se_var 2) (SF.se (sf_int)))) (SF.se (sf_at (se_var 2) (SF.se (sf_int)))))) (SF.se (sf_int)))) (se_var 1)),fun _ _ _ _ _ e1=>sf_var 2⟩))))⟩
noncomputable abbrev s_larger_half:Stmt:=top 11
theorem sc_larger_half:FnScope ["floor","even","odd"] ["floor"] (defScope s_larger_half):=⟨rfl,rfl,rfl,by decide +kernel,rfl,by decide +kernel,by decide +kernel⟩
theorem ok_larger_half {f:Addr} {fd:FuncData} (Dn:Dfn K mg "larger_half" s_larger_half f fd) (T:Txt mg) (C_half_of:Cal P w K mg base "half_of" ["floor","parity"] 1 dn_half_of):Cal P w K mg base "larger_half" ["floor"] 2 dn_larger_half :=
 ⟨f,fd,Dn.mg,Dn.fn.kp,Dn.fn.binds fun _ _ _ _ _ _ us hl=>by obtain ⟨_,rfl⟩:=len1 hl; rfl,fn_okG Dn.fn sc_larger_half fun cdv A outer s H E hr gd G hx =>
  sb_cons (ss_set 1 (sf_cal (x:="half_of") (ps:=["floor","parity"]) (k:=1) (j:=1) (dn:=dn_half_of) (by exact C_half_of) hx (by exact hr) (by decide) (by rfl) (sa_cons (sf_var 0) (sa_cons (sf_int) (sa_nil)))) gd.nd)
  (sb_cons (ss_set 2 (sf_cal (x:="half_of") (ps:=["floor","parity"]) (k:=1) (j:=1) (dn:=dn_half_of) (by exact C_half_of) hx (by exact hr) (by decide) (by rfl) (sa_cons (sf_var 0) (sa_cons (sf_int) (sa_nil)))) gd.nd)
  (sb_one (ss_ret (sf_if (st_ge gd (SF.se (sf_len  (by rfl) T.g_len (se_var 1))) (SF.se (sf_len  (by rfl) T.g_len (se_var 2)))) (sf_var 1) (sf_var 2)))))⟩
noncomputable abbrev s_finds_partner:Stmt:=top 12
theorem sc_finds_partner:FnScope ["square","squares","holders","tried","near"] ["square","squares","holders","tried"] (defScope s_finds_partner):=⟨rfl,rfl,rfl,by decide +kernel,rfl,by decide +kernel,by decide +kernel⟩
theorem st_finds_partner {f:Addr} {fd:FuncData} {kr:Nat} {rec:List D->Kvs->Kvs->R (D × Kvs × Kvs)} (Dn:Dfn K mg "finds_partner" s_finds_partner f fd) (T:Txt mg) (C_neighbours:Cal P w K mg base "neighbours" ["square","squares"] 1 dn_neighbours) (hkr:1<=kr) (C_rec:CalQ P w K mg base "finds_partner" ["square","squares","holders","tried"] kr rec):CalQ P w K mg base "finds_partner" ["square","squares","holders","tried"] (kr + 1) (denQ 5 (m_finds_partner rec)) :=
 ⟨f,fd,Dn.mg,Dn.fn.kp,Dn.fn.binds fun _ _ _ _ _ _ us hl=>by obtain ⟨_,_,_,_,rfl⟩:=len4 hl; rfl,fn_okQ (i:=2) Dn.fn sc_finds_partner rfl fun cdv A outer s H E hr gd G a b hx =>
  sbq_cons (ssq_for gd (si_list (sf_cal (x:="neighbours") (ps:=["square","squares"]) (k:=1) (j:=kr) (dn:=dn_neighbours) (by exact C_neighbours) hx (by exact hr) (by omega) (by rfl) (sa_cons (sf_var 0) (sa_cons (sf_var 1) (sa_nil))))) (sg_name gd 4) (fun _ e1=>sbq_one (ssq_if (st_dnotin gd (se_var 4) (se_var 3)) (sbq_cons (ssq_dput 3 (hu1 gd) (se_var 4) (sf_bl))
  (sbq_one (ssq_ifC (stc_or (st_dnotin gd (se_var 4) (se_var 2)) (stc_call (x:="finds_partner") (ps:=["square","squares","holders","tried"]) (k:=kr) (kk:=kr) (dn:=rec) (by exact C_rec) (hx_of e1 hx) (by exact hr) (Nat.le_refl _) (by rfl) (saq_cons (sf_dg gd (se_var 2) (se_var 4)) (saq_cons (sf_var 1) (saq_last 2 3))))) (sbq_cons (ssq_dput 2 (hu1 gd) (se_var 4) (sf_var 0))
  (sbq_one (ssq_ret (sf_bl)))) (sbq_nil)))) (sbq_nil))))
  (sbq_one (ssq_ret (sf_bl)))⟩
theorem ok_finds_partner {f:Addr} {fd:FuncData} (Dn:Dfn K mg "finds_partner" s_finds_partner f fd) (T:Txt mg) (C_neighbours:Cal P w K mg base "neighbours" ["square","squares"] 1 dn_neighbours):CalQ P w K mg base "finds_partner" ["square","squares","holders","tried"] 35 dn_finds_partner :=
  (show ∀ n:Nat,CalQ P w K mg base "finds_partner" ["square","squares","holders","tried"] (n + 1) (dnf_finds_partner n) from fun n=>by
    induction n with
    | zero=>exact calq_no Dn (Dn.fn.binds fun _ _ _ _ _ _ us hl=>by obtain ⟨_,_,_,_,rfl⟩:=len4 hl; rfl)
    | succ n ih=>rw [show n + 1 + 1=n + 1 + 1 by omega]; exact st_finds_partner Dn T C_neighbours (by omega) ih) 34
noncomputable abbrev s_wall_from:Stmt:=top 13
theorem sc_wall_from:FnScope ["square","holders","tried","near"] ["square","holders","tried"] (defScope s_wall_from):=⟨rfl,rfl,rfl,by decide +kernel,rfl,by decide +kernel,by decide +kernel⟩
theorem ok_wall_from {f:Addr} {fd:FuncData} (Dn:Dfn K mg "wall_from" s_wall_from f fd) (T:Txt mg) :Cal P w K mg base "wall_from" ["square","holders","tried"] 1 dn_wall_from :=
 ⟨f,fd,Dn.mg,Dn.fn.kp,Dn.fn.binds fun _ _ _ _ _ _ us hl=>by obtain ⟨_,_,_,rfl⟩:=len3 hl; rfl,fn_okG Dn.fn sc_wall_from fun cdv A outer s H E hr gd G hx =>
  sb_one (ss_ret (SN.sf (sn_sort gd  (by rfl) T.g_sorted (SF.se (sf_add (SN.se (sn_lst (sa_cons (sf_var 0) (sa_nil)))) (SN.se (sn_comp gd hx (si_dict (sf_var 2)) (⟨cs_of rfl (by decide +kernel) (by decide +kernel) (by repeat first | exact True.intro | refine And.intro (by first | (intro h; exact absurd h (by decide)) | (intro _; exact Or.inl rfl) | (intro _; exact Or.inr rfl)) ?_),loc_of (N:=["square","holders","tried","near"]) (by decide +kernel),hset_n _ ,fun _ _ _ _=>sg_name (gd_in gd) 3,fun _ _ _ _ _ e1=>sc_nil,fun _ _ _ _ _ e1=>sf_dg (gd_in gd) (se_var 1) (se_var 3)⟩))))))))⟩
noncomputable abbrev s_flag_over:Stmt:=top 14
theorem sc_flag_over:FnScope ["one","other","first"] ["one","other"] (defScope s_flag_over):=⟨rfl,rfl,rfl,by decide +kernel,rfl,by decide +kernel,by decide +kernel⟩
theorem ok_flag_over {f:Addr} {fd:FuncData} (Dn:Dfn K mg "flag_over" s_flag_over f fd) (T:Txt mg) :Cal P w K mg base "flag_over" ["one","other"] 1 dn_flag_over :=
 ⟨f,fd,Dn.mg,Dn.fn.kp,Dn.fn.binds fun _ _ _ _ _ _ us hl=>by obtain ⟨_,_,rfl⟩:=len2 hl; rfl,fn_okG Dn.fn sc_flag_over fun cdv A outer s H E hr gd G hx =>
  sb_cons (ss_set 2 (sf_minT gd  (by rfl) T.g_min (se_var 0) (se_var 1)) gd.nd)
  (sb_one (ss_ret (sf_tup (sa_cons (sf_at (se_var 2) (SF.se (sf_int))) (sa_cons (sf_at (se_var 2) (SF.se (sf_int))) (sa_cons (sf_if (st_eq gd (SF.se (sf_at (se_var 0) (SF.se (sf_int)))) (SF.se (sf_at (se_var 1) (SF.se (sf_int))))) (sf_int) (sf_int)) (sa_nil)))))))⟩
noncomputable abbrev s_lay:Stmt:=top 15
theorem sc_lay:FnScope ["floor","squares","holders","square","tried","near"] ["floor"] (defScope s_lay):=⟨rfl,rfl,rfl,by decide +kernel,rfl,by decide +kernel,by decide +kernel⟩
theorem ok_lay {f:Addr} {fd:FuncData} (Dn:Dfn K mg "lay" s_lay f fd) (T:Txt mg) (C_check_floor:Cal P w K mg base "check_floor" ["floor"] 2 dn_check_floor) (C_marked:Cal P w K mg base "marked" ["floor"] 1 dn_marked) (C_larger_half:Cal P w K mg base "larger_half" ["floor"] 2 dn_larger_half) (C_finds_partner:CalQ P w K mg base "finds_partner" ["square","squares","holders","tried"] 35 dn_finds_partner) (C_wall_from:Cal P w K mg base "wall_from" ["square","holders","tried"] 1 dn_wall_from) (C_flag_over:Cal P w K mg base "flag_over" ["one","other"] 1 dn_flag_over):Cal P w K mg base "lay" ["floor"] 36 dn_lay :=
 ⟨f,fd,Dn.mg,Dn.fn.kp,Dn.fn.binds fun _ _ _ _ _ _ us hl=>by obtain ⟨_,rfl⟩:=len1 hl; rfl,fn_okG Dn.fn sc_lay fun cdv A outer s H E hr gd G hx =>
  sb_cons (ss_expr (SF.se (sf_cal (x:="check_floor") (ps:=["floor"]) (k:=2) (j:=35) (dn:=dn_check_floor) (by exact C_check_floor) hx (by exact hr) (by decide) (by rfl) (sa_cons (sf_var 0) (sa_nil)))))
  (sb_cons (ss_set 1 (sf_cal (x:="marked") (ps:=["floor"]) (k:=1) (j:=35) (dn:=dn_marked) (by exact C_marked) hx (by exact hr) (by decide) (by rfl) (sa_cons (sf_var 0) (sa_nil))) gd.nd)
  (sb_cons (ss_own 2 (sn_dic) gd.nd)
  (sb_cons (ss_for gd (si_list (sf_cal (x:="larger_half") (ps:=["floor"]) (k:=2) (j:=35) (dn:=dn_larger_half) (by exact C_larger_half) hx (by exact hr) (by decide) (by rfl) (sa_cons (sf_var 0) (sa_nil)))) (sg_name gd 3) (fun _ e1=>sb_cons (ss_own 4 (sn_dic) gd.nd)
  (sb_one (ss_ifC (stc_not (stc_call (x:="finds_partner") (ps:=["square","squares","holders","tried"]) (k:=35) (kk:=35) (dn:=dn_finds_partner) (by exact C_finds_partner) (hx_of e1 hx) (by exact hr) (by decide) (by rfl) (saq_cons (sf_var 3) (saq_cons (sf_var 1) (saq_last 2 4))))) (sb_one (ss_frz 4 (ss_frz 2 (ss_ret (sf_tup (sa_cons (sf_str) (sa_cons (sf_cal (x:="wall_from") (ps:=["square","holders","tried"]) (k:=1) (j:=35) (dn:=dn_wall_from) (by exact C_wall_from) (hx_of e1 hx) (by exact hr) (by decide) (by rfl) (sa_cons (sf_var 3) (sa_cons (sf_var 2) (sa_cons (sf_var 4) (sa_nil))))) (sa_nil)))))))) (sb_nil)))))
  (sb_one (ss_frz 2 (ss_ret (sf_tup (sa_cons (sf_str) (sa_cons (SN.sf (sn_sort gd  (by rfl) T.g_sorted (SN.se (sn_comp gd hx (si_items gd (sf_var 2)) (⟨cs_of rfl (by decide +kernel) (by decide +kernel) (by repeat first | exact True.intro | refine And.intro (by first | (intro h; exact absurd h (by decide)) | (intro _; exact Or.inl rfl) | (intro _; exact Or.inr rfl)) ?_),loc_of (N:=["floor","squares","holders","square","tried","near"]) (by decide +kernel),hset_t _ _,fun _ _ _ _=>sg_two (gd_in gd) 5 3,fun _ _ _ _ _ e2=>sc_nil,fun _ _ _ _ _ e2=>sf_cal (x:="flag_over") (ps:=["one","other"]) (k:=1) (j:=35) (dn:=dn_flag_over) (by exact C_flag_over) (hx_of e2 hx) (by exact hr) (by decide) (by rfl) (sa_cons (sf_var 5) (sa_cons (sf_var 3) (sa_nil)))⟩))))) (sa_nil))))))))))⟩
noncomputable abbrev s_law_cell_at:Stmt:=top 17
theorem sc_law_cell_at:FnScope ["script","k"] ["script","k"] (defScope s_law_cell_at):=⟨rfl,rfl,rfl,by decide +kernel,rfl,by decide +kernel,by decide +kernel⟩
theorem ok_law_cell_at {f:Addr} {fd:FuncData} (Dn:Dfn K mg "_law_cell_at" s_law_cell_at f fd) (T:Txt mg) :Cal P w K mg base "_law_cell_at" ["script","k"] 1 dn_law_cell_at :=
 ⟨f,fd,Dn.mg,Dn.fn.kp,Dn.fn.binds fun _ _ _ _ _ _ us hl=>by obtain ⟨_,_,rfl⟩:=len2 hl; rfl,fn_okG Dn.fn sc_law_cell_at fun cdv A outer s H E hr gd G hx =>
  sb_cons (ss_if (st_lt gd (se_var 1) (SF.se (sf_len  (by rfl) T.g_len (se_var 0)))) (sb_one (ss_ret (sf_at (se_var 0) (se_var 1)))) (sb_nil))
  (sb_one (ss_ret (sf_int)))⟩
noncomputable abbrev s_law_floor:Stmt:=top 18
theorem sc_law_floor:FnScope ["script","head","high","wide","top","left","share","number","floor","k"] ["script"] (defScope s_law_floor):=⟨rfl,rfl,rfl,by decide +kernel,rfl,by decide +kernel,by decide +kernel⟩
theorem ok_law_floor {f:Addr} {fd:FuncData} (Dn:Dfn K mg "_law_floor" s_law_floor f fd) (T:Txt mg) (C_law_cell_at:Cal P w K mg base "_law_cell_at" ["script","k"] 1 dn_law_cell_at):Cal P w K mg base "_law_floor" ["script"] 2 dn_law_floor :=
 ⟨f,fd,Dn.mg,Dn.fn.kp,Dn.fn.binds fun _ _ _ _ _ _ us hl=>by obtain ⟨_,rfl⟩:=len1 hl; rfl,fn_okG Dn.fn sc_law_floor fun cdv A outer s H E hr gd G hx =>
  sb_cons (ss_set 1 (sf_cal (x:="_law_cell_at") (ps:=["script","k"]) (k:=1) (j:=1) (dn:=dn_law_cell_at) (by exact C_law_cell_at) hx (by exact hr) (by decide) (by rfl) (sa_cons (sf_var 0) (sa_cons (sf_int) (sa_nil)))) gd.nd)
  (sb_cons (ss_set 2 (sf_add (SF.se (sf_int)) (SF.se (sf_mod (se_var 1) (SF.se (sf_int))))) gd.nd)
  (sb_cons (ss_set 3 (sf_add (SF.se (sf_int)) (SF.se (sf_mod (SF.se (sf_div (se_var 1) (SF.se (sf_int)))) (SF.se (sf_int))))) gd.nd)
  (sb_cons (ss_set 4 (sf_mod (SF.se (sf_div (se_var 1) (SF.se (sf_int)))) (SF.se (sf_sub (SF.se (sf_int)) (se_var 2)))) gd.nd)
  (sb_cons (ss_set 5 (sf_mod (SF.se (sf_div (se_var 1) (SF.se (sf_int)))) (SF.se (sf_sub (SF.se (sf_int)) (se_var 3)))) gd.nd)
  (sb_cons (ss_set 6 (sf_at (SN.se (sn_lst (sa_cons (sf_int) (sa_cons (sf_int) (sa_cons (sf_int) (sa_nil)))))) (SF.se (sf_mod (SF.se (sf_cal (x:="_law_cell_at") (ps:=["script","k"]) (k:=1) (j:=1) (dn:=dn_law_cell_at) (by exact C_law_cell_at) hx (by exact hr) (by decide) (by rfl) (sa_cons (sf_var 0) (sa_cons (sf_int) (sa_nil))))) (SF.se (sf_int))))) gd.nd)
  (sb_cons (ss_set 7 (sf_add (SF.se (sf_int)) (SF.se (sf_mod (SF.se (sf_cal (x:="_law_cell_at") (ps:=["script","k"]) (k:=1) (j:=1) (dn:=dn_law_cell_at) (by exact C_law_cell_at) hx (by exact hr) (by decide) (by rfl) (sa_cons (sf_var 0) (sa_cons (sf_int) (sa_nil))))) (SF.se (sf_int))))) gd.nd)
  (sb_cons (ss_own 8 (sn_lst (sa_nil)) gd.nd)
  (sb_cons (ss_for gd (si_range1  (by rfl) T.g_range (sf_mul (se_var 2) (se_var 3))) (sg_name gd 9) (fun _ e1=>sb_cons (ss_set 7 (sf_mod (SF.se (sf_mul (se_var 7) (SF.se (sf_int)))) (SF.se (sf_int))) gd.nd)
  (sb_one (ss_if (st_gt gd (SF.se (sf_mod (SF.se (sf_div (se_var 7) (SF.se (sf_int)))) (se_var 6))) (SF.se (sf_int))) (sb_one (ss_app 8 (sf_tup (sa_cons (sf_add (se_var 4) (SF.se (sf_div (se_var 9) (se_var 3)))) (sa_cons (sf_add (se_var 5) (SF.se (sf_mod (se_var 9) (se_var 3)))) (sa_nil)))))) (sb_nil)))))
  (sb_one (ss_frz 8 (ss_ret (sf_var 8))))))))))))⟩
noncomputable abbrev s_law_even:Stmt:=top 19
theorem sc_law_even:FnScope ["floor","square","many","least","counts","left","odd"] ["floor"] (defScope s_law_even):=⟨rfl,rfl,rfl,by decide +kernel,rfl,by decide +kernel,by decide +kernel⟩
theorem ok_law_even {f:Addr} {fd:FuncData} (Dn:Dfn K mg "_law_even" s_law_even f fd) (T:Txt mg) :Cal P w K mg base "_law_even" ["floor"] 1 dn_law_even :=
 ⟨f,fd,Dn.mg,Dn.fn.kp,Dn.fn.binds fun _ _ _ _ _ _ us hl=>by obtain ⟨_,rfl⟩:=len1 hl; rfl,fn_okG Dn.fn sc_law_even fun cdv A outer s H E hr gd G hx =>
  sb_cons (ss_set 2 (sf_len  (by rfl) T.g_len (SN.se (sn_comp gd hx (si_list (sf_var 0)) (⟨cs_of rfl (by decide +kernel) (by decide +kernel) (by repeat first | exact True.intro | refine And.intro (by first | (intro h; exact absurd h (by decide)) | (intro _; exact Or.inl rfl) | (intro _; exact Or.inr rfl)) ?_),loc_of (N:=["floor","square","many","least","counts","left","odd"]) (by decide +kernel),hset_n _ ,fun _ _ _ _=>sg_name (gd_in gd) 1,fun _ _ _ _ _ e1=>sc_one (st_eq (gd_in gd) (SF.se (sf_mod (SF.se (sf_add (SF.se (sf_at (se_var 1) (SF.se (sf_int)))) (SF.se (sf_at (se_var 1) (SF.se (sf_int)))))) (SF.se (sf_int)))) (SF.se (sf_int))),fun _ _ _ _ _ e1=>sf_var 1⟩)))) gd.nd)
  (sb_cons (ss_set 3 (sf_min gd  (by rfl) T.g_min (se_var 2) (SF.se (sf_sub (SF.se (sf_len  (by rfl) T.g_len (se_var 0))) (se_var 2)))) gd.nd)
  (sb_cons (ss_own 4 (sn_lst (sa_cons (sf_int) (sa_cons (sf_int) (sa_nil)))) gd.nd)
  (sb_cons (ss_own 5 (sn_lst (sa_nil)) gd.nd)
  (sb_cons (ss_for gd (si_list (sf_var 0)) (sg_name gd 1) (fun _ e2=>sb_cons (ss_set 6 (sf_mod (SF.se (sf_add (SF.se (sf_at (se_var 1) (SF.se (sf_int)))) (SF.se (sf_at (se_var 1) (SF.se (sf_int)))))) (SF.se (sf_int))) gd.nd)
  (sb_cons (ss_lput 4 (se_var 6) (sf_add (SF.se (sf_at (se_var 4) (se_var 6))) (SF.se (sf_int))))
  (sb_one (ss_if (st_le gd (SF.se (sf_at (se_var 4) (se_var 6))) (se_var 3)) (sb_one (ss_app 5 (sf_var 1))) (sb_nil))))))
  (sb_one (ss_frz 5 (ss_ret (sf_var 5))))))))⟩
noncomputable abbrev s_law_places:Stmt:=top 20
theorem sc_law_places:FnScope ["found","many","thing","place"] ["found","many"] (defScope s_law_places):=⟨rfl,rfl,rfl,by decide +kernel,rfl,by decide +kernel,by decide +kernel⟩
theorem ok_law_places {f:Addr} {fd:FuncData} (Dn:Dfn K mg "_law_places" s_law_places f fd) (T:Txt mg) :Cal P w K mg base "_law_places" ["found","many"] 1 dn_law_places :=
 ⟨f,fd,Dn.mg,Dn.fn.kp,Dn.fn.binds fun _ _ _ _ _ _ us hl=>by obtain ⟨_,_,rfl⟩:=len2 hl; rfl,fn_okG Dn.fn sc_law_places fun cdv A outer s H E hr gd G hx =>
  sb_cons (ss_if (st_not (st_val (SF.se (sf_isi .list  (by rfl) T.g_isinstance  (by rfl) T.g_list (se_var 0))))) (sb_one (ss_ret (sf_bl))) (sb_nil))
  (sb_cons (ss_for gd (si_list (sf_var 0)) (sg_name gd 2) (fun _ e1=>sb_cons (ss_if (SW.st (sw_or (st_not (st_val (SF.se (sf_isi .tuple  (by rfl) T.g_isinstance  (by rfl) T.g_tuple (se_var 2))))) (sw_or1 (st_ne gd (SF.se (sf_len  (by rfl) T.g_len (se_var 2))) (se_var 1))))) (sb_one (ss_ret (sf_bl))) (sb_nil))
  (sb_one (ss_for gd (si_tup (sf_var 2)) (sg_name gd 3) (fun _ e2=>sb_one (ss_if (SW.st (sw_or (st_not (st_val (SF.se (sf_isi .int  (by rfl) T.g_isinstance  (by rfl) T.g_int (se_var 3))))) (sw_or1 (st_val (SF.se (sf_isi .bool  (by rfl) T.g_isinstance  (by rfl) T.g_bool (se_var 3))))))) (sb_one (ss_ret (sf_bl))) (sb_nil)))))))
  (sb_one (ss_ret (sf_bl))))⟩
noncomputable abbrev s_law_fits:Stmt:=top 21
theorem sc_law_fits:FnScope ["floor","flags","covered","k","row","column","lies"] ["floor","flags"] (defScope s_law_fits):=⟨rfl,rfl,rfl,by decide +kernel,rfl,by decide +kernel,by decide +kernel⟩
theorem ok_law_fits {f:Addr} {fd:FuncData} (Dn:Dfn K mg "_law_fits" s_law_fits f fd) (T:Txt mg) :Cal P w K mg base "_law_fits" ["floor","flags"] 1 dn_law_fits :=
 ⟨f,fd,Dn.mg,Dn.fn.kp,Dn.fn.binds fun _ _ _ _ _ _ us hl=>by obtain ⟨_,_,rfl⟩:=len2 hl; rfl,fn_okG Dn.fn sc_law_fits fun cdv A outer s H E hr gd G hx =>
  sb_cons (ss_set 2 (SN.sf (sn_lst (sa_nil))) gd.nd)
  (sb_cons (ss_for gd (si_range1  (by rfl) T.g_range (sf_len  (by rfl) T.g_len (se_var 1))) (sg_name gd 3) (fun _ e1=>sb_cons (ss_set 4 (sf_at (SF.se (sf_at (se_var 1) (se_var 3))) (SF.se (sf_int))) gd.nd)
  (sb_cons (ss_set 5 (sf_at (SF.se (sf_at (se_var 1) (se_var 3))) (SF.se (sf_int))) gd.nd)
  (sb_cons (ss_set 6 (sf_at (SF.se (sf_at (se_var 1) (se_var 3))) (SF.se (sf_int))) gd.nd)
  (sb_cons (ss_if (SW.st (sw_or (SW.st (sw_and (st_ne gd (se_var 6) (SF.se (sf_int))) (sw_and1 (st_ne gd (se_var 6) (SF.se (sf_int)))))) (sw_or1 (SW.st (sw_and (st_gt gd (se_var 3) (SF.se (sf_int))) (sw_and1 (st_ge gd (SF.se (sf_slice (SF.se (sf_at (se_var 1) (SF.se (sf_sub (se_var 3) (SF.se (sf_int)))))) (so_none) (so_some (SF.se (sf_int))))) (SF.se (sf_slice (SF.se (sf_at (se_var 1) (se_var 3))) (so_none) (so_some (SF.se (sf_int)))))))))))) (sb_one (ss_ret (sf_bl))) (sb_nil))
  (sb_one (ss_set 2 (sf_add (se_var 2) (SN.se (sn_lst (sa_cons (sf_tup (sa_cons (sf_var 4) (sa_cons (sf_var 5) (sa_nil)))) (sa_cons (sf_tup (sa_cons (sf_add (se_var 4) (se_var 6)) (sa_cons (sf_sub (SF.se (sf_add (se_var 5) (SF.se (sf_int)))) (se_var 6)) (sa_nil)))) (sa_nil)))))) gd.nd)))))))
  (sb_one (ss_ret (sf_eq gd (SN.se (sn_sort gd  (by rfl) T.g_sorted (se_var 2))) (se_var 0)))))⟩
noncomputable abbrev s_law_is_fence:Stmt:=top 22
theorem sc_law_is_fence:FnScope ["floor","squares","around","k","row","column","other"] ["floor","squares"] (defScope s_law_is_fence):=⟨rfl,rfl,rfl,by decide +kernel,rfl,by decide +kernel,by decide +kernel⟩
theorem ok_law_is_fence {f:Addr} {fd:FuncData} (Dn:Dfn K mg "_law_is_fence" s_law_is_fence f fd) (T:Txt mg) :Cal P w K mg base "_law_is_fence" ["floor","squares"] 1 dn_law_is_fence :=
 ⟨f,fd,Dn.mg,Dn.fn.kp,Dn.fn.binds fun _ _ _ _ _ _ us hl=>by obtain ⟨_,_,rfl⟩:=len2 hl; rfl,fn_okG Dn.fn sc_law_is_fence fun cdv A outer s H E hr gd G hx =>
  sb_cons (ss_own 2 (sn_dic) gd.nd)
  (sb_cons (ss_for gd (si_range1  (by rfl) T.g_range (sf_len  (by rfl) T.g_len (se_var 1))) (sg_name gd 3) (fun _ e1=>sb_cons (ss_set 4 (sf_at (SF.se (sf_at (se_var 1) (se_var 3))) (SF.se (sf_int))) gd.nd)
  (sb_cons (ss_set 5 (sf_at (SF.se (sf_at (se_var 1) (se_var 3))) (SF.se (sf_int))) gd.nd)
  (sb_cons (ss_if (SW.st (sw_or (st_notin gd (SF.se (sf_at (se_var 1) (se_var 3))) (se_var 0)) (sw_or1 (SW.st (sw_and (st_gt gd (se_var 3) (SF.se (sf_int))) (sw_and1 (st_ge gd (SF.se (sf_at (se_var 1) (SF.se (sf_sub (se_var 3) (SF.se (sf_int)))))) (SF.se (sf_at (se_var 1) (se_var 3)))))))))) (sb_one (ss_ret (sf_bl))) (sb_nil))
  (sb_cons (ss_if (st_ne gd (SF.se (sf_mod (SF.se (sf_add (se_var 4) (se_var 5))) (SF.se (sf_int)))) (SF.se (sf_mod (SF.se (sf_add (SF.se (sf_at (SF.se (sf_at (se_var 1) (SF.se (sf_int)))) (SF.se (sf_int)))) (SF.se (sf_at (SF.se (sf_at (se_var 1) (SF.se (sf_int)))) (SF.se (sf_int)))))) (SF.se (sf_int))))) (sb_one (ss_ret (sf_bl))) (sb_nil))
  (sb_one (ss_for gd (si_list (SN.sf (sn_lst (sa_cons (sf_tup (sa_cons (sf_sub (se_var 4) (SF.se (sf_int))) (sa_cons (sf_var 5) (sa_nil)))) (sa_cons (sf_tup (sa_cons (sf_add (se_var 4) (SF.se (sf_int))) (sa_cons (sf_var 5) (sa_nil)))) (sa_cons (sf_tup (sa_cons (sf_var 4) (sa_cons (sf_sub (se_var 5) (SF.se (sf_int))) (sa_nil)))) (sa_cons (sf_tup (sa_cons (sf_var 4) (sa_cons (sf_add (se_var 5) (SF.se (sf_int))) (sa_nil)))) (sa_nil)))))))) (sg_name gd 6) (fun _ e2=>sb_one (ss_if (st_in gd (se_var 6) (se_var 0)) (sb_one (ss_dput 2 (hu1 gd) (se_var 6) (sf_bl))) (sb_nil))))))))))
  (sb_one (ss_ret (sf_lt gd (SF.se (sf_len  (by rfl) T.g_len (se_var 2))) (SF.se (sf_len  (by rfl) T.g_len (se_var 1)))))))⟩
noncomputable abbrev s_law:Stmt:=top 23
theorem sc_law:FnScope ["script","floor","handed","found"] ["script"] (defScope s_law):=⟨rfl,rfl,rfl,by decide +kernel,rfl,by decide +kernel,by decide +kernel⟩
theorem fok_law {f:Addr} {fd:FuncData} (Dn:Dfn K mg "law" s_law f fd) (T:Txt mg) (C_law_floor:Cal P w K mg base "_law_floor" ["script"] 2 dn_law_floor) (C_law_cell_at:Cal P w K mg base "_law_cell_at" ["script","k"] 1 dn_law_cell_at) (C_law_even:Cal P w K mg base "_law_even" ["floor"] 1 dn_law_even) (C_lay:Cal P w K mg base "lay" ["floor"] 36 dn_lay) (C_law_places:Cal P w K mg base "_law_places" ["found","many"] 1 dn_law_places) (C_law_fits:Cal P w K mg base "_law_fits" ["floor","flags"] 1 dn_law_fits) (C_law_is_fence:Cal P w K mg base "_law_is_fence" ["floor","squares"] 1 dn_law_is_fence):FnOk P w K mg base CX0 37 f fd ["script"] (spD K 1 dn_law):=fn_okG Dn.fn sc_law fun cdv A outer s H E hr gd G hx =>
  sb_cons (ss_set 1 (sf_cal (x:="_law_floor") (ps:=["script"]) (k:=2) (j:=36) (dn:=dn_law_floor) (by exact C_law_floor) hx (by exact hr) (by decide) (by rfl) (sa_cons (sf_var 0) (sa_nil))) gd.nd)
  (sb_cons (ss_if (st_eq gd (SF.se (sf_mod (SF.se (sf_cal (x:="_law_cell_at") (ps:=["script","k"]) (k:=1) (j:=36) (dn:=dn_law_cell_at) (by exact C_law_cell_at) hx (by exact hr) (by decide) (by rfl) (sa_cons (sf_var 0) (sa_cons (sf_int) (sa_nil))))) (SF.se (sf_int)))) (SF.se (sf_int))) (sb_one (ss_set 1 (sf_cal (x:="_law_even") (ps:=["floor"]) (k:=1) (j:=36) (dn:=dn_law_even) (by exact C_law_even) hx (by exact hr) (by decide) (by rfl) (sa_cons (sf_var 1) (sa_nil))) gd.nd)) (sb_nil))
  (sb_cons (ss_set 2 (SN.sf (sn_list  (by rfl) T.g_list (se_var 1))) gd.nd)
  (sb_cons (ss_set 3 (sf_cal (x:="lay") (ps:=["floor"]) (k:=36) (j:=36) (dn:=dn_lay) (by exact C_lay) hx (by exact hr) (by decide) (by rfl) (sa_cons (sf_var 2) (sa_nil))) gd.nd)
  (sb_cons (ss_if (SW.st (sw_or (st_ne gd (se_var 2) (se_var 1)) (sw_or (st_not (st_val (SF.se (sf_isi .tuple  (by rfl) T.g_isinstance  (by rfl) T.g_tuple (se_var 3))))) (sw_or1 (st_ne gd (SF.se (sf_len  (by rfl) T.g_len (se_var 3))) (SF.se (sf_int))))))) (sb_one (ss_ret (sf_bl))) (sb_nil))
  (sb_cons (ss_if (st_eq gd (SF.se (sf_at (se_var 3) (SF.se (sf_int)))) (SF.se (sf_str))) (sb_one (ss_ret (sf_and (sf_cal (x:="_law_places") (ps:=["found","many"]) (k:=1) (j:=36) (dn:=dn_law_places) (by exact C_law_places) hx (by exact hr) (by decide) (by rfl) (sa_cons (sf_at (se_var 3) (SF.se (sf_int))) (sa_cons (sf_int) (sa_nil)))) (sf_one (sf_cal (x:="_law_fits") (ps:=["floor","flags"]) (k:=1) (j:=36) (dn:=dn_law_fits) (by exact C_law_fits) hx (by exact hr) (by decide) (by rfl) (sa_cons (sf_var 1) (sa_cons (sf_at (se_var 3) (SF.se (sf_int))) (sa_nil)))))))) (sb_nil))
  (sb_one (ss_ret (sf_and (sf_eq gd (SF.se (sf_at (se_var 3) (SF.se (sf_int)))) (SF.se (sf_str))) (sf_and (sf_cal (x:="_law_places") (ps:=["found","many"]) (k:=1) (j:=36) (dn:=dn_law_places) (by exact C_law_places) hx (by exact hr) (by decide) (by rfl) (sa_cons (sf_at (se_var 3) (SF.se (sf_int))) (sa_cons (sf_int) (sa_nil)))) (sf_one (sf_cal (x:="_law_is_fence") (ps:=["floor","squares"]) (k:=1) (j:=36) (dn:=dn_law_is_fence) (by exact C_law_is_fence) hx (by exact hr) (by decide) (by rfl) (sa_cons (sf_var 1) (sa_cons (sf_at (se_var 3) (SF.se (sf_int))) (sa_nil))))))))))))))
theorem law_F {h:Heap} {fa:Addr} (KX:K.In h) (GX:h.Ns mainGlobals mg) (hfa:mg "law"=some (.ref fa))
  (e_on_board:∃ f,Ent K "on_board" s_on_board f)
  (e_check_floor:∃ f,Ent K "check_floor" s_check_floor f)
  (e_marked:∃ f,Ent K "marked" s_marked f)
  (e_neighbours:∃ f,Ent K "neighbours" s_neighbours f)
  (e_half_of:∃ f,Ent K "half_of" s_half_of f)
  (e_larger_half:∃ f,Ent K "larger_half" s_larger_half f)
  (e_finds_partner:∃ f,Ent K "finds_partner" s_finds_partner f)
  (e_wall_from:∃ f,Ent K "wall_from" s_wall_from f)
  (e_flag_over:∃ f,Ent K "flag_over" s_flag_over f)
  (e_lay:∃ f,Ent K "lay" s_lay f)
  (e_law_cell_at:∃ f,Ent K "_law_cell_at" s_law_cell_at f)
  (e_law_floor:∃ f,Ent K "_law_floor" s_law_floor f)
  (e_law_even:∃ f,Ent K "_law_even" s_law_even f)
  (e_law_places:∃ f,Ent K "_law_places" s_law_places f)
  (e_law_fits:∃ f,Ent K "_law_fits" s_law_fits f)
  (e_law_is_fence:∃ f,Ent K "_law_is_fence" s_law_is_fence f)
  (e_law:∃ f,Ent K "law" s_law f)
  (z_SIDE:∃ t,PySem.W.nsIn K mainGlobals "SIDE"=some (some (.int 8 t)))
  (z_zip:PySem.W.nsIn K mainGlobals "zip"=some none)
  (z_dict:PySem.W.nsIn K mainGlobals "dict"=some none)
  (z_len:PySem.W.nsIn K mainGlobals "len"=some none)
  (z_sorted:PySem.W.nsIn K mainGlobals "sorted"=some none)
  (z_min:PySem.W.nsIn K mainGlobals "min"=some none)
  (z_range:PySem.W.nsIn K mainGlobals "range"=some none)
  (z_isinstance:PySem.W.nsIn K mainGlobals "isinstance"=some none)
  (z_list:PySem.W.nsIn K mainGlobals "list"=some none)
  (z_tuple:PySem.W.nsIn K mainGlobals "tuple"=some none)
  (z_int:PySem.W.nsIn K mainGlobals "int"=some none)
  (z_bool:PySem.W.nsIn K mainGlobals "bool"=some none)
 :∃ fd:FuncData,(∀ (s:Shared) (v:Value),BindsTo s fd ⟨[v],[]⟩ [("script",v)])/\∀ base:Heap,K.In base->base.Ns mainGlobals mg->FnOk P w K mg base CX0 37 fa fd ["script"] (spD K 1 dn_law):=by
 obtain ⟨f_on_board,e_on_board⟩:=e_on_board
 obtain ⟨fd_on_board,d_on_board⟩:=e_on_board.dfn KX GX
 obtain ⟨f_check_floor,e_check_floor⟩:=e_check_floor
 obtain ⟨fd_check_floor,d_check_floor⟩:=e_check_floor.dfn KX GX
 obtain ⟨f_marked,e_marked⟩:=e_marked
 obtain ⟨fd_marked,d_marked⟩:=e_marked.dfn KX GX
 obtain ⟨f_neighbours,e_neighbours⟩:=e_neighbours
 obtain ⟨fd_neighbours,d_neighbours⟩:=e_neighbours.dfn KX GX
 obtain ⟨f_half_of,e_half_of⟩:=e_half_of
 obtain ⟨fd_half_of,d_half_of⟩:=e_half_of.dfn KX GX
 obtain ⟨f_larger_half,e_larger_half⟩:=e_larger_half
 obtain ⟨fd_larger_half,d_larger_half⟩:=e_larger_half.dfn KX GX
 obtain ⟨f_finds_partner,e_finds_partner⟩:=e_finds_partner
 obtain ⟨fd_finds_partner,d_finds_partner⟩:=e_finds_partner.dfn KX GX
 obtain ⟨f_wall_from,e_wall_from⟩:=e_wall_from
 obtain ⟨fd_wall_from,d_wall_from⟩:=e_wall_from.dfn KX GX
 obtain ⟨f_flag_over,e_flag_over⟩:=e_flag_over
 obtain ⟨fd_flag_over,d_flag_over⟩:=e_flag_over.dfn KX GX
 obtain ⟨f_lay,e_lay⟩:=e_lay
 obtain ⟨fd_lay,d_lay⟩:=e_lay.dfn KX GX
 obtain ⟨f_law_cell_at,e_law_cell_at⟩:=e_law_cell_at
 obtain ⟨fd_law_cell_at,d_law_cell_at⟩:=e_law_cell_at.dfn KX GX
 obtain ⟨f_law_floor,e_law_floor⟩:=e_law_floor
 obtain ⟨fd_law_floor,d_law_floor⟩:=e_law_floor.dfn KX GX
 obtain ⟨f_law_even,e_law_even⟩:=e_law_even
 obtain ⟨fd_law_even,d_law_even⟩:=e_law_even.dfn KX GX
 obtain ⟨f_law_places,e_law_places⟩:=e_law_places
 obtain ⟨fd_law_places,d_law_places⟩:=e_law_places.dfn KX GX
 obtain ⟨f_law_fits,e_law_fits⟩:=e_law_fits
 obtain ⟨fd_law_fits,d_law_fits⟩:=e_law_fits.dfn KX GX
 obtain ⟨f_law_is_fence,e_law_is_fence⟩:=e_law_is_fence
 obtain ⟨fd_law_is_fence,d_law_is_fence⟩:=e_law_is_fence.dfn KX GX
 obtain ⟨f_law,e_law⟩:=e_law
 obtain ⟨fd_law,d_law⟩:=e_law.dfn KX GX
 obtain ⟨t_SIDE,z_SIDE⟩:=z_SIDE
 have T:Txt mg:=⟨⟨_,PySem.W.mg_of KX GX z_SIDE⟩,PySem.W.mg_none_of KX GX z_zip,PySem.W.mg_none_of KX GX z_dict,PySem.W.mg_none_of KX GX z_len,PySem.W.mg_none_of KX GX z_sorted,PySem.W.mg_none_of KX GX z_min,PySem.W.mg_none_of KX GX z_range,PySem.W.mg_none_of KX GX z_isinstance,PySem.W.mg_none_of KX GX z_list,PySem.W.mg_none_of KX GX z_tuple,PySem.W.mg_none_of KX GX z_int,PySem.W.mg_none_of KX GX z_bool⟩
 refine law_end hfa d_law (Fun.one d_law.fn fun _ _ _ _ _ _ _=>rfl) fun base=>?_
 have C_law_cell_at:Cal P w K mg base "_law_cell_at" ["script","k"] 1 dn_law_cell_at:=ok_law_cell_at d_law_cell_at T
 have C_law_floor:Cal P w K mg base "_law_floor" ["script"] 2 dn_law_floor:=ok_law_floor d_law_floor T C_law_cell_at
 have C_law_even:Cal P w K mg base "_law_even" ["floor"] 1 dn_law_even:=ok_law_even d_law_even T
 have C_on_board:Cal P w K mg base "on_board" ["square"] 1 dn_on_board:=ok_on_board d_on_board T
 have C_check_floor:Cal P w K mg base "check_floor" ["floor"] 2 dn_check_floor:=ok_check_floor d_check_floor T C_on_board
 have C_marked:Cal P w K mg base "marked" ["floor"] 1 dn_marked:=ok_marked d_marked T
 have C_half_of:Cal P w K mg base "half_of" ["floor","parity"] 1 dn_half_of:=ok_half_of d_half_of T
 have C_larger_half:Cal P w K mg base "larger_half" ["floor"] 2 dn_larger_half:=ok_larger_half d_larger_half T C_half_of
 have C_neighbours:Cal P w K mg base "neighbours" ["square","squares"] 1 dn_neighbours:=ok_neighbours d_neighbours T
 have C_finds_partner:CalQ P w K mg base "finds_partner" ["square","squares","holders","tried"] 35 dn_finds_partner:=ok_finds_partner d_finds_partner T C_neighbours
 have C_wall_from:Cal P w K mg base "wall_from" ["square","holders","tried"] 1 dn_wall_from:=ok_wall_from d_wall_from T
 have C_flag_over:Cal P w K mg base "flag_over" ["one","other"] 1 dn_flag_over:=ok_flag_over d_flag_over T
 have C_lay:Cal P w K mg base "lay" ["floor"] 36 dn_lay:=ok_lay d_lay T C_check_floor C_marked C_larger_half C_finds_partner C_wall_from C_flag_over
 have C_law_places:Cal P w K mg base "_law_places" ["found","many"] 1 dn_law_places:=ok_law_places d_law_places T
 have C_law_fits:Cal P w K mg base "_law_fits" ["floor","flags"] 1 dn_law_fits:=ok_law_fits d_law_fits T
 have C_law_is_fence:Cal P w K mg base "_law_is_fence" ["floor","squares"] 1 dn_law_is_fence:=ok_law_is_fence d_law_is_fence T
 exact fok_law d_law T C_law_floor C_law_cell_at C_law_even C_lay C_law_places C_law_fits C_law_is_fence
end
theorem walk {l:PySem.W.OpenLaw} {q:Program} {loose:List Str} {XP:(Str->Option Value)->Heap->Prop} {YP:World->Heap->Prop} {d:DefRec} {K:Params->PySem.W.Frag} (hn:l.most=some 63) (hdf:d.params.defaults=[])
  (hY:∀ (w:World) (h:Heap),YP w h->(K w.params).In h) (hm:∀ ns:List Int,ns.length<=63->dn_law [.scr ns]=.ok (.bl true))
  (F:∀ (w:World) (mg:Str->Option Value) (fa:Addr) (h:Heap),(K w.params).In h->h.Ns mainGlobals mg->mg d.name=some (.ref fa) →
   ∃ fd:FuncData,(∀ (s:Shared) (u:Value),BindsTo s fd ⟨[u],[]⟩ [("script",u)])/\∀ base:Heap,(K w.params).In base->base.Ns mainGlobals mg->FnOk l.prog w (K w.params) mg base CX0 37 fa fd ["script"] (spD (K w.params) 1 dn_law)) :
  PySem.W.WalkO q loose XP YP l.row.toRowW d [] (fun f vs=>PySem.call f vs) :=
 L2.walk_ofK (n:=63) (k:=37) (x:="script") (CX:=CX0) (sp:=fun K=>spD K 1 dn_law) hn (by decide) hdf ⟨rfl,by decide,by decide⟩ hY F (fun K H a ns hl _ hS=>sp_law hl hS hm) fun _ _ _ _ z=>z
end M

set_option Elab.async false
set_option linter.all false
open PySem PySem.W PyProof.Rows
noncomputable def PySem.W.Fast.tw15517332339835394712:PySem.Program:=PySem.Challenge.pw_flagfloor_k03_whole_laid_or_a_wall
theorem PySem.W.Fast.te15517332339835394712:PySem.Challenge.pw_flagfloor_k03_whole_laid_or_a_wall=PySem.W.Fast.tw15517332339835394712:=rfl
set_option maxRecDepth 100000 in
set_option maxHeartbeats 0 in
theorem PySem.Challenge.cw_flagfloor_k03_whole_laid_or_a_wall_holds : PySem.Challenge.rw_flagfloor_k03_whole_laid_or_a_wall.Holds := by
 w_on; o_law; k_head; (case hw=>w_witness2)
 k_fill
 refine M.walk (l:=PySem.Challenge.rw_flagfloor_k03_whole_laid_or_a_wall) rfl rfl (fun w h Y=>PySem.W.kIn_of Y) M.law_true ?F
 case F =>
  intro w mg fa h KX GX hmg
  refine' M.law_F KX GX hmg
   (M.ent_ex KX ?a_on_board ?l_on_board ?c_on_board ?k_on_board)
   (M.ent_ex KX ?a_check_floor ?l_check_floor ?c_check_floor ?k_check_floor)
   (M.ent_ex KX ?a_marked ?l_marked ?c_marked ?k_marked)
   (M.ent_ex KX ?a_neighbours ?l_neighbours ?c_neighbours ?k_neighbours)
   (M.ent_ex KX ?a_half_of ?l_half_of ?c_half_of ?k_half_of)
   (M.ent_ex KX ?a_larger_half ?l_larger_half ?c_larger_half ?k_larger_half)
   (M.ent_ex KX ?a_finds_partner ?l_finds_partner ?c_finds_partner ?k_finds_partner)
   (M.ent_ex KX ?a_wall_from ?l_wall_from ?c_wall_from ?k_wall_from)
   (M.ent_ex KX ?a_flag_over ?l_flag_over ?c_flag_over ?k_flag_over)
   (M.ent_ex KX ?a_lay ?l_lay ?c_lay ?k_lay)
   (M.ent_ex KX ?a_law_cell_at ?l_law_cell_at ?c_law_cell_at ?k_law_cell_at)
   (M.ent_ex KX ?a_law_floor ?l_law_floor ?c_law_floor ?k_law_floor)
   (M.ent_ex KX ?a_law_even ?l_law_even ?c_law_even ?k_law_even)
   (M.ent_ex KX ?a_law_places ?l_law_places ?c_law_places ?k_law_places)
   (M.ent_ex KX ?a_law_fits ?l_law_fits ?c_law_fits ?k_law_fits)
   (M.ent_ex KX ?a_law_is_fence ?l_law_is_fence ?c_law_is_fence ?k_law_is_fence)
   (M.ent_ex KX ?a_law ?l_law ?c_law ?k_law)
   (M.int_ex KX ?z_SIDE)
   ?z_zip
   ?z_dict
   ?z_len
   ?z_sorted
   ?z_min
   ?z_range
   ?z_isinstance
   ?z_list
   ?z_tuple
   ?z_int
   ?z_bool
  (case a_on_board=>k_is); (case l_on_board=>k_is); (case c_on_board=>k_is); (case k_on_board=>k_is)
  (case a_check_floor=>k_is); (case l_check_floor=>k_is); (case c_check_floor=>k_is); (case k_check_floor=>k_is)
  (case a_marked=>k_is); (case l_marked=>k_is); (case c_marked=>k_is); (case k_marked=>k_is)
  (case a_neighbours=>k_is); (case l_neighbours=>k_is); (case c_neighbours=>k_is); (case k_neighbours=>k_is)
  (case a_half_of=>k_is); (case l_half_of=>k_is); (case c_half_of=>k_is); (case k_half_of=>k_is)
  (case a_larger_half=>k_is); (case l_larger_half=>k_is); (case c_larger_half=>k_is); (case k_larger_half=>k_is)
  (case a_finds_partner=>k_is); (case l_finds_partner=>k_is); (case c_finds_partner=>k_is); (case k_finds_partner=>k_is)
  (case a_wall_from=>k_is); (case l_wall_from=>k_is); (case c_wall_from=>k_is); (case k_wall_from=>k_is)
  (case a_flag_over=>k_is); (case l_flag_over=>k_is); (case c_flag_over=>k_is); (case k_flag_over=>k_is)
  (case a_lay=>k_is); (case l_lay=>k_is); (case c_lay=>k_is); (case k_lay=>k_is)
  (case a_law_cell_at=>k_is); (case l_law_cell_at=>k_is); (case c_law_cell_at=>k_is); (case k_law_cell_at=>k_is)
  (case a_law_floor=>k_is); (case l_law_floor=>k_is); (case c_law_floor=>k_is); (case k_law_floor=>k_is)
  (case a_law_even=>k_is); (case l_law_even=>k_is); (case c_law_even=>k_is); (case k_law_even=>k_is)
  (case a_law_places=>k_is); (case l_law_places=>k_is); (case c_law_places=>k_is); (case k_law_places=>k_is)
  (case a_law_fits=>k_is); (case l_law_fits=>k_is); (case c_law_fits=>k_is); (case k_law_fits=>k_is)
  (case a_law_is_fence=>k_is); (case l_law_is_fence=>k_is); (case c_law_is_fence=>k_is); (case k_law_is_fence=>k_is)
  (case a_law=>k_is); (case l_law=>k_is); (case c_law=>k_is); (case k_law=>k_is)
  (case z_SIDE=>k_is)
  (case z_zip=>k_is)
  (case z_dict=>k_is)
  (case z_len=>k_is)
  (case z_sorted=>k_is)
  (case z_min=>k_is)
  (case z_range=>k_is)
  (case z_isinstance=>k_is)
  (case z_list=>k_is)
  (case z_tuple=>k_is)
  (case z_int=>k_is)
  (case z_bool=>k_is)

