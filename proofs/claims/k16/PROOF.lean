import PyProof.Rows.All
import Wide.All
import OpenK.AllK
import Wide.FinOn
import Lean
import PyProof.EqAt
import PyProof.EqKinds
import PyProof.TupleCall
import PySem.Challenge.RW_flagfloor_k16_written_and_read
noncomputable section
set_option bootstrap.genMatcherCode false
set_option compiler.extract_closed false
local macro_rules | `(tactic| omega) => `(tactic| lia)

set_option Elab.async false
set_option linter.all false
set_option maxRecDepth 100000

namespace L2
open PySem PySem.Spec PyProof.Rows

noncomputable abbrev Key := Sum Int Str
noncomputable def keyIs : Key → Value → Bool
  | .inl k, v => Value.isInt k v
  | .inr x, v => Value.isStrOf x v
noncomputable def keyH (w : World) : Key → Int
  | .inl k => hashInt k
  | .inr x => hashStr w x
theorem keyIs_shape : ∀ {k : Key} {v : Value}, keyIs k v = true → (∃ i t, k = Sum.inl i ∧ v = Value.int i t) ∨ (∃ x t, k = Sum.inr x ∧ v = Value.str x t)
  | .inl i, v, h => by
    obtain ⟨t, e⟩ := Value.isInt_shape (k := i) (v := v) h
    exact .inl ⟨i, t, rfl, e⟩
  | .inr x, v, h => by
    obtain ⟨t, e⟩ := Value.isStrOf_shape (x := x) (v := v) h
    exact .inr ⟨x, t, rfl, e⟩
theorem keyIs_int (i : Int) (t : Tok) : keyIs (.inl i) (.int i t) = true := by simp [keyIs, Value.isInt]
theorem keyIs_str (x : Str) (t : Tok) : keyIs (.inr x) (.str x t) = true := by simp [keyIs, Value.isStrOf]
theorem key_ll (a b : Int) : decide ((Sum.inl a : Key) = Sum.inl b) = (a == b) := by
  by_cases e : a = b
  · subst e; simp
  · have h : ¬ (Sum.inl a : Key) = Sum.inl b := fun q => e (Sum.inl.inj q)
    rw [decide_eq_false h]
    exact (beq_eq_false_iff_ne.mpr e).symm
theorem key_rr (a b : Str) : decide ((Sum.inr a : Key) = Sum.inr b) = decide (a = b) := by
  by_cases e : a = b
  · subst e; simp
  · have h : ¬ (Sum.inr a : Key) = Sum.inr b := fun q => e (Sum.inr.inj q)
    rw [decide_eq_false h, decide_eq_false e]
theorem key_lr (a : Int) (b : Str) : decide ((Sum.inl a : Key) = Sum.inr b) = false := decide_eq_false (fun q => nomatch q)
theorem key_rl (a : Str) (b : Int) : decide ((Sum.inr a : Key) = Sum.inl b) = false := decide_eq_false (fun q => nomatch q)

noncomputable def mixKind (prog : Program) (w : World) : PySem.KeyKind prog w Key where
  is := keyIs
  hash := keyH w
  inj := fun v a b ha hb => by
    rcases keyIs_shape ha with ⟨i, t, rfl, rfl⟩ | ⟨x, t, rfl, rfl⟩
    · rcases keyIs_shape hb with ⟨j, u, rfl, e⟩ | ⟨y, u, rfl, e⟩
      · injection e with e1 _; rw [e1]
      · exact nomatch e
    · rcases keyIs_shape hb with ⟨j, u, rfl, e⟩ | ⟨y, u, rfl, e⟩
      · exact nomatch e
      · injection e with e1 _; rw [e1]
  byValue := fun k v h => by
    rcases keyIs_shape h with ⟨i, t, rfl, rfl⟩ | ⟨x, t, rfl, rfl⟩ <;> rfl
  pyHash := fun hv h => by
    rcases keyIs_shape hv with ⟨i, t, rfl, rfl⟩ | ⟨x, t, rfl, rfl⟩
    · exact wpAny_pyHash_int h
    · exact wpAny_pyHash_str h
  eqBool := fun hu hv h => by
    rcases keyIs_shape hu with ⟨i, t, rfl, rfl⟩ | ⟨x, t, rfl, rfl⟩
    · rcases keyIs_shape hv with ⟨j, u, rfl, rfl⟩ | ⟨y, u, rfl, rfl⟩
      · rw [key_ll] at h; exact wpAny_eqBool_int h
      · rw [key_lr] at h; exact SeqAt.EqAt.int_str i t y u _ _ _ _ h
    · rcases keyIs_shape hv with ⟨j, u, rfl, rfl⟩ | ⟨y, u, rfl, rfl⟩
      · rw [key_rl] at h; exact SeqAt.EqAt.str_int x t j u _ _ _ _ h
      · rw [key_rr] at h; exact wpAny_eqBool_str h
  «strs» := fun k x t v h => by
    rcases keyIs_shape h with ⟨i, u, rfl, e⟩ | ⟨y, u, rfl, e⟩
    · exact nomatch e
    · injection e with e1 _
      subst e1
      cases v <;> rfl

theorem mixKind_int (prog : Program) (w : World) (i : Int) (t : Tok) : (mixKind prog w).is (.inl i) (.int i t) = true := keyIs_int i t
theorem mixKind_str (prog : Program) (w : World) (x : Str) (t : Tok) : (mixKind prog w).is (.inr x) (.str x t) = true := keyIs_str x t
end L2

namespace L2
open PySem PySem.Spec PyProof.Rows

inductive V where
  | non | bl (b : Bool) | int (i : Int) | str (x : Str) | byt (b : Array UInt8) | flt (b : UInt64) | ref (a : Addr) | ty (n : String)
  deriving DecidableEq

noncomputable def RelV : V → Value → Prop
  | .non, u => u = Value.none
  | .bl b, u => u = Value.bool b
  | .int i, u => ∃ t, u = Value.int i t
  | .str x, u => ∃ t, u = Value.str x t
  | .byt b, u => ∃ t, u = Value.bytes b t
  | .flt b, u => ∃ t, u = Value.float b t
  | .ref a, u => u = Value.ref a
  | .ty n, u => u = Value.type n

noncomputable abbrev Vals : List V → List Value → Prop := Paired RelV
theorem Vals.length {xs : List V} {us : List Value} (r : Vals xs us) : xs.length = us.length := Paired.length r
theorem Vals.get : ∀ {xs : List V} {us : List Value} {i : Nat} {x : V}, Vals xs us → xs[i]? = some x → ∃ u, us[i]? = some u ∧ RelV x u
  | _, _, _, _, .nil, e => by simp at e
  | _, _, 0, _, .cons r _, e => by simp at e; subst e; exact ⟨_, rfl, r⟩
  | _, _, i + 1, x, .cons _ t, e => by
    obtain ⟨u, h1, h2⟩ := Vals.get (i := i) (x := x) t (by simpa using e)
    exact ⟨u, by simpa using h1, h2⟩
theorem Vals.append : ∀ {xs ys : List V} {us ws : List Value}, Vals xs us → Vals ys ws → Vals (xs ++ ys) (us ++ ws)
  | _, _, _, _, .nil, s => s
  | _, _, _, _, .cons r t, s => .cons r (Vals.append t s)
theorem Vals.take : ∀ {xs : List V} {us : List Value} (n : Nat), Vals xs us → Vals (xs.take n) (us.take n)
  | _, _, 0, _ => .nil
  | _, _, _ + 1, .nil => .nil
  | _, _, n + 1, .cons r t => .cons r (Vals.take n t)
theorem Vals.drop : ∀ {xs : List V} {us : List Value} (n : Nat), Vals xs us → Vals (xs.drop n) (us.drop n)
  | _, _, 0, r => r
  | _, _, _ + 1, .nil => .nil
  | _, _, n + 1, .cons _ t => Vals.drop n t

noncomputable def RelO : Option V → Option Value → Prop
  | some v, some u => RelV v u
  | none, none => True
  | _, _ => False
noncomputable def KV {κ : Type} : List (κ × V) → List (κ × Value) → Prop := Paired fun (p : κ × V) (q : κ × Value) => p.1 = q.1 ∧ RelV p.2 q.2

noncomputable def kV : Key → V
  | .inl i => .int i
  | .inr x => .str x

inductive HO where
    | lst (xs : List V)
    | tup (xs : List V)
    | dK (kvs : List (Key × V)) | dT (kvs : List (List Key × V))
    | set (S : Int → Bool) (n : Nat)
    | ins (C dx : Addr) (fs : List (Str × V))
    | own (x : Addr)
    | xd (fs : List (Str × V))
    | met (f x : Addr)
    | rng (lo hi : Int)
    | frz (o : Obj) (u : HO)
    | tbl (ps : Array Value)
    | ext (φ : Heap → Prop)

noncomputable abbrev Hp := Addr → Option HO
noncomputable def upd (H : Hp) (a : Addr) (o : HO) : Hp := fun b => if b = a then some o else H b
theorem upd_same {H : Hp} {a : Addr} {o : HO} : upd H a o a = some o := by unfold upd; rw [if_pos rfl]
theorem upd_ne {H : Hp} {a b : Addr} {o : HO} (h : b ≠ a) : upd H a o b = H b := by unfold upd; rw [if_neg h]
theorem ne_of {H : Hp} {a b : Addr} {o u : HO} (h : H a = some o) (h' : H b = some u) (d : o ≠ u) : a ≠ b := by
  intro e; subst e; rw [h] at h'; exact d (Option.some.inj h')
theorem ne_of_none {H : Hp} {a b : Addr} {o : HO} (h : H a = some o) (h' : H b = none) : a ≠ b := by
  intro e; subst e; rw [h] at h'; cases h'

section
variable (P : Program) (w : World)
noncomputable def ObjOk (H : Hp) (h : Heap) (a : Addr) : HO → Prop
  | .lst xs => xs.length ≤ sizeLine ∧ ∃ (its : List Value) (n : Nat), Vals xs its ∧ h.get? a = some { cls := .type "list", data := .seq its.toArray n }
  | .tup xs => xs.length ≤ sizeLine ∧ ∃ its : List Value, Vals xs its ∧ IsTup h a its.toArray
  | .dK kvs => kvs.length ≤ sizeLine ∧ (a == sysModules) = false ∧ ∃ vs, KV kvs vs ∧ h.DictOf (mixKind P w) a vs
  | .dT kvs => kvs.length ≤ sizeLine ∧ (a == sysModules) = false ∧ ∃ xs : List (List Key × Addr × Value),
      Paired (fun (p : List Key × V) (q : List Key × Addr × Value) => p.1 = q.1 ∧ H q.2.1 = some (.tup (p.1.map kV)) ∧ RelV p.2 q.2.2) kvs xs ∧
      ∃ o es ep, h.get? a = some o ∧ o.ExactDict ∧ o.data = .dict es ep ∧ es.toList = xs.map (entryOfKey (tupleKind (mixKind P w))) ∧ (xs.map (·.1)).Nodup
  | .set S n => h.SetOf (intKind P w) a S n
  | .ins C dx fs => H dx = some (.own a) ∧ fs.length ≤ 1000 ∧ dx ≠ a ∧ h.get? a = some (PySem.W.instObj C dx) ∧
      ∃ mA, h.Ns1 dx mA ∧ (∀ f, RelO (fs.lookup f) (mA f)) ∧ PySem.Within mA (fs.map (·.1))
  | .own _ => ∃ o, h.get? a = some o
  | .xd fs => ∃ mA, h.Ns1 a mA ∧ ∀ f, RelO (fs.lookup f) (mA f)
  | .rng lo hi => ∃ t u v, h.get? a = some { cls := .type "range", data := .fields #[.int lo t, .int hi u, .int 1 v] }
  | .frz o u => h.get? a = some o ∧ ObjOk H h a u
  | .tbl ps => h.get? a = some { cls := .none, data := .fields ps }
  | .met f x => h.get? a = some (PySem.W.methodObj (.ref f) (.ref x))
  | .ext φ => φ h ∧ (∃ o, h.get? a = some o) ∧ ∀ h1 h2 : Heap, φ h1 → (∀ o, h1.get? a = some o → h2.get? a = some o) → φ h2
noncomputable def HOk (H : Hp) (h : Heap) : Prop := ∀ a o, H a = some o → ObjOk P w H h a o
end

section
variable {P : Program} {w : World} {H H' : Hp} {h h' : Heap} {a : Addr} {o : HO}
theorem ObjOk.lt (x : ObjOk P w H h a o) : a < h.objs.size := by
  cases o with
  | lst xs => obtain ⟨_, _, _, _, e⟩ := x; exact Heap.lt_size e
  | tup xs => obtain ⟨_, _, _, p⟩ := x; exact p.lt
  | dK kvs => obtain ⟨_, _, _, _, o, _, _, e, _⟩ := x; exact Heap.lt_size e
  | dT kvs => obtain ⟨_, _, _, _, o, _, _, e, _⟩ := x; exact Heap.lt_size e
  | set S n => obtain ⟨o, _, _, _, e, _⟩ := x; exact Heap.lt_size e
  | ins C dx fs => obtain ⟨_, _, _, e, _⟩ := x; exact Heap.lt_size e
  | own y => obtain ⟨_, e⟩ := x; exact Heap.lt_size e
  | xd fs => obtain ⟨_, ⟨_, _, _, e, _⟩, _⟩ := x; exact Heap.lt_size e
  | rng lo hi => obtain ⟨_, _, _, e⟩ := x; exact Heap.lt_size e
  | frz ob u => obtain ⟨e, _⟩ := x; exact Heap.lt_size e
  | tbl ps => exact Heap.lt_size (show h.get? a = some _ from x)
  | met f y => exact Heap.lt_size (show h.get? a = some _ from x)
  | ext φ => obtain ⟨_, ⟨_, e⟩, _⟩ := x; exact Heap.lt_size e
theorem Paired.mapP {α β : Type} {F G : α → β → Prop} : ∀ {l₁ : List α} {l₂ : List β}, Paired F l₁ l₂ → (∀ a b, F a b → G a b) → Paired G l₁ l₂
  | _, _, .nil, _ => .nil
  | _, _, .cons r t, f => .cons (f _ _ r) (Paired.mapP t f)
theorem ObjOk.stay (x : ObjOk P w H h a o) (k : ∀ b u, (b = a ∨ H b = some (.own a)) → h.get? b = some u → h'.get? b = some u)
    (ho : ∀ b, H b = some (.own a) → H' b = some (.own a)) (ht : ∀ b xs, H b = some (.tup xs) → H' b = some (.tup xs)) : ObjOk P w H' h' a o := by
  induction o with
  | lst xs => obtain ⟨z, its, n, r, e⟩ := x; exact ⟨z, its, n, r, k _ _ (.inl rfl) e⟩
  | tup xs => obtain ⟨z, its, r, ob, e, c⟩ := x; exact ⟨z, its, r, ob, k _ _ (.inl rfl) e, c⟩
  | dK kvs => obtain ⟨z, y, vs, r, ob, es, ep, e, c⟩ := x; exact ⟨z, y, vs, r, ob, es, ep, k _ _ (.inl rfl) e, c⟩
  | dT kvs =>
    obtain ⟨z, y, xs, r, ob, es, ep, e, c⟩ := x
    exact ⟨z, y, xs, Paired.mapP r fun p q z => ⟨z.1, ht _ _ z.2.1, z.2.2⟩, ob, es, ep, k _ _ (.inl rfl) e, c⟩
  | set S n => obtain ⟨ob, es, ep, t, e, c⟩ := x; exact ⟨ob, es, ep, t, k _ _ (.inl rfl) e, c⟩
  | ins C dx fs =>
    obtain ⟨d, z, ne, e, mA, ⟨od, es, ep, e2, c⟩, r⟩ := x
    exact ⟨ho _ d, z, ne, k _ _ (.inl rfl) e, mA, ⟨od, es, ep, k _ _ (.inr d) e2, c⟩, r⟩
  | own y => obtain ⟨ob, e⟩ := x; exact ⟨ob, k _ _ (.inl rfl) e⟩
  | xd fs => obtain ⟨mA, ⟨od, es, ep, e, c⟩, r⟩ := x; exact ⟨mA, ⟨od, es, ep, k _ _ (.inl rfl) e, c⟩, r⟩
  | rng lo hi => obtain ⟨t, u, v, e⟩ := x; exact ⟨t, u, v, k _ _ (.inl rfl) e⟩
  | frz ob u ih => obtain ⟨e, q⟩ := x; exact ⟨k _ _ (.inl rfl) e, ih q⟩
  | tbl ps =>
    have e : h.get? a = some { cls := .none, data := .fields ps } := x
    show h'.get? a = some { cls := .none, data := .fields ps }
    exact k a _ (.inl rfl) e
  | met f y =>
    have e : h.get? a = some (PySem.W.methodObj (.ref f) (.ref y)) := x
    show h'.get? a = some (PySem.W.methodObj (.ref f) (.ref y))
    exact k a _ (.inl rfl) e
  | ext φ => obtain ⟨p, ⟨o, e⟩, st⟩ := x; exact ⟨st _ _ p fun o q => k _ _ (.inl rfl) q, ⟨o, k _ _ (.inl rfl) e⟩, st⟩
theorem HOk.lt (x : HOk P w H h) (e : H a = some o) : a < h.objs.size := (x a o e).lt
theorem HOk.fresh (x : HOk P w H h) (e : h.objs.size ≤ a) : H a = none := by
  cases q : H a with
  | none => rfl
  | some u => exact absurd (Nat.lt_of_lt_of_le (x.lt q) e) (Nat.lt_irrefl _)
theorem HOk.kept (x : HOk P w H h) (k : ∀ b u, h.get? b = some u → h'.get? b = some u) : HOk P w H h' := fun a o e =>
  (x a o e).stay (fun b u _ q => k b u q) (fun _ q => q) fun _ _ q => q
theorem HOk.laid (x : HOk P w H h) (k : ∀ b u, h.get? b = some u → h'.get? b = some u) (hp : h.objs.size ≤ a) (new : ObjOk P w (upd H a o) h' a o) : HOk P w (upd H a o) h' := fun b u e => by
  have hn := x.fresh hp
  by_cases hb : b = a
  · subst hb; rw [upd_same] at e; cases e; exact new
  · rw [upd_ne hb] at e
    exact (x b u e).stay (fun c v _ q => k c v q) (fun c q => by rw [upd_ne (ne_of_none q hn)]; exact q) fun c xs q => by rw [upd_ne (ne_of_none q hn)]; exact q
end

noncomputable def Rd (H : Hp) (a : Addr) (u : HO) : Prop := H a = some u ∨ ∃ o, H a = some (.frz o u)
theorem Rd.ok {P : Program} {w : World} {H : Hp} {h : Heap} {a : Addr} {u : HO} (r : Rd H a u) (x : HOk P w H h) : ObjOk P w H h a u := by
  rcases r with r | ⟨o, r⟩
  · exact x a u r
  · obtain ⟨_, q⟩ := x a _ r
    exact q
noncomputable def Mut : Option HO → Prop
  | some (.lst _) => True
  | some (.dK _) => True
  | some (.dT _) => True
  | some (.set _ _) => True
  | some (.ins _ _ _) => True
  | some (.ext _) => True
  | _ => False
section
variable {P : Program} {w : World} {H : Hp} {h h' : Heap} {x e : Addr} {o' : HO}
theorem HOk.write (ok : HOk P w H h) (mu : Mut (H x)) (he : e = x ∨ H e = some (.own x)) (k : ∀ b u, b ≠ e → h.get? b = some u → h'.get? b = some u) (heo : ∃ u, h'.get? e = some u)
    (new : ObjOk P w (upd H x o') h' x o') : HOk P w (upd H x o') h' := fun b u q => by
  have nown : ∀ c y, H c = some (.own y) → c ≠ x := fun c y r z => by subst z; rw [r] at mu; exact mu
  have ntup : ∀ c xs, H c = some (.tup xs) → c ≠ x := fun c xs r z => by subst z; rw [r] at mu; exact mu
  by_cases hb : b = x
  · subst hb; rw [upd_same] at q; cases q; exact new
  · rw [upd_ne hb] at q
    by_cases hbe : b = e
    · have q' : H b = some (.own x) := by
        rcases he with z | z
        · exact absurd (hbe.trans z) hb
        · rw [hbe]; exact z
      rw [q] at q'; cases q'
      obtain ⟨v, hv⟩ := heo
      exact ⟨v, by rw [hbe]; exact hv⟩
    · refine (ok b u q).stay (fun c v hc r => k c v ?_ r) (fun c r => by rw [upd_ne (nown c b r)]; exact r) fun c xs r => by rw [upd_ne (ntup c xs r)]; exact r
      rcases hc with rfl | hc
      · exact hbe
      · rintro rfl
        rcases he with z | z
        · exact nown c b hc z
        · rw [hc] at z; cases z; exact hb rfl
end

structure Un (fs ex : List Addr) (H H' : Hp) (h h' : Heap) : Prop where
  keep : ∀ b o, h.get? b = some o → H b = none → b ∉ fs → b ∉ ex → h'.get? b = some o
  slot : ∀ b o, h.get? b = some o → H b = none → b ∈ fs → b ∉ ex → ∃ sl, h'.get? b = some { o with slots := sl }
  free : ∀ b o, h.get? b = some o → H b = none → b ∉ ex → H' b = none
  there : ∀ b o, h.get? b = some o → b ∉ ex → ∃ o', h'.get? b = some o'
  tups : ∀ b xs, H b = some (.tup xs) → H' b = some (.tup xs)
  frzs : ∀ b o u, H b = some (.frz o u) → H' b = some (.frz o u)
  tbls : ∀ b ps, H b = some (.tbl ps) → ∃ more, H' b = some (.tbl (ps ++ more))
section
variable {fs fs' ex ex' : List Addr} {H H1 H2 : Hp} {h h1 h2 h' : Heap} {a x e : Addr} {o : HO}
theorem Un.any (u : Un fs ex H H1 h h1) {b : Addr} {ob : Obj} (q : h.get? b = some ob) (n : H b = none) (hx : b ∉ ex) : ∃ sl, h1.get? b = some { ob with slots := sl } := by
  by_cases hb : b ∈ fs
  · exact u.slot b ob q n hb hx
  · exact ⟨ob.slots, u.keep b ob q n hb hx⟩
theorem Un.kept (k : ∀ b u, h.get? b = some u → h'.get? b = some u) : Un fs ex H H h h' :=
  ⟨fun b ob q _ _ _ => k b ob q, fun b ob q _ _ _ => ⟨ob.slots, k b ob q⟩, fun _ _ _ n _ => n, fun b ob q _ => ⟨ob, k b ob q⟩, fun _ _ q => q, fun _ _ _ q => q, fun _ ps q => ⟨#[], by rw [q]; simp⟩⟩
theorem Un.refl : Un fs ex H H h h := Un.kept fun _ _ q => q
theorem Un.laid (k : ∀ b u, h.get? b = some u → h'.get? b = some u) (hp : h.objs.size ≤ a) (hn : H a = none) : Un fs ex H (upd H a o) h h' where
  keep := fun b u q _ _ _ => k b u q
  slot := fun b u q _ _ _ => ⟨u.slots, k b u q⟩
  free := fun b u q n _ => by rw [upd_ne (Nat.ne_of_lt (Nat.lt_of_lt_of_le (Heap.lt_size q) hp))]; exact n
  there := fun b u q _ => ⟨u, k b u q⟩
  tups := fun b xs q => by rw [upd_ne (ne_of_none q hn)]; exact q
  frzs := fun b u xs q => by rw [upd_ne (ne_of_none q hn)]; exact q
  tbls := fun b ps q => ⟨#[], by rw [upd_ne (ne_of_none q hn), q]; simp⟩
theorem Un.write (mu : Mut (H x)) (he : e = x ∨ H e = some (.own x)) (k : ∀ b u, b ≠ e → h.get? b = some u → h'.get? b = some u) (heo : ∃ u, h'.get? e = some u) : Un fs ex H (upd H x o) h h' := by
  have hx : ∀ b, H b = none → b ≠ x := fun b n z => by subst z; rw [n] at mu; exact mu
  have hb : ∀ b, H b = none → b ≠ e := fun b n z => by
    subst z
    rcases he with r | r
    · exact hx b n r
    · rw [n] at r; cases r
  have hm : ∀ b u, H b = some u → ¬ Mut (some u) → b ≠ x := fun b u q nm z => by subst z; rw [q] at mu; exact nm mu
  refine ⟨fun b u q n _ _ => k b u (hb b n) q, fun b u q n _ _ => ⟨u.slots, k b u (hb b n) q⟩, fun b u q n _ => by rw [upd_ne (hx b n)]; exact n, fun b u q _ => ?_,
    fun b xs q => by rw [upd_ne (hm b _ q fun z => z)]; exact q, fun b u xs q => by rw [upd_ne (hm b _ q fun z => z)]; exact q, fun b ps q => ⟨#[], by rw [upd_ne (hm b _ q fun z => z), q]; simp⟩⟩
  by_cases hbe : b = e
  · subst hbe; exact heo
  · exact ⟨u, k b u hbe q⟩
end

noncomputable def trk (h : Heap) (H : Hp) : List Addr := (List.range h.objs.size).filter fun a => (H a).isSome
noncomputable def hidT (h : Heap) (H : Hp) : Heap := PySem.W.hideAll h (trk h H)
theorem hidT_size (h : Heap) (H : Hp) : (hidT h H).objs.size = h.objs.size := PySem.W.hideAll_size _ _
theorem hidT_get {h : Heap} {H : Hp} {b : Addr} {o : Obj} (e : h.get? b = some o) (n : H b = none) : (hidT h H).get? b = some o :=
  PySem.W.hideAll_get _ e fun hm => by
    have q : (H b).isSome = true := (List.mem_filter.mp hm).2
    rw [n] at q; simp at q
theorem of_hidT {h : Heap} {H : Hp} {b : Addr} {o : Obj} (e : (hidT h H).get? b = some o) : h.get? b = some o ∧ H b = none := by
  have e' : h.get? b = some o := PySem.W.of_hideAll (trk h H) e
  refine ⟨e', ?_⟩
  cases q : H b with
  | none => rfl
  | some x =>
    have hm : b ∈ trk h H := List.mem_filter.mpr ⟨List.mem_range.mpr (Heap.lt_size e'), by simp [q]⟩
    have z : (hidT h H).get? b = none := PySem.W.hideAll_none (trk h H) hm
    rw [z] at e; cases e

noncomputable def allNews (g h : Heap) (L : Addr) : List (Addr × Obj) := (List.range h.objs.size).filterMap fun a => if a = L ∨ (g.get? a).isSome = true then none else (h.get? a).map fun o => (a, o)
theorem mem_allNews {g h : Heap} {L a : Addr} {o : Obj} (h1 : a ≠ L) (h2 : g.get? a = none) (h3 : h.get? a = some o) : (a, o) ∈ allNews g h L :=
  List.mem_filterMap.mpr ⟨a, List.mem_range.mpr (Heap.lt_size h3), by simp [h1, h2, h3]⟩
theorem of_mem_allNews {g h : Heap} {L : Addr} {p : Addr × Obj} (hp : p ∈ allNews g h L) : p.1 ≠ L ∧ g.get? p.1 = none ∧ h.get? p.1 = some p.2 := by
  obtain ⟨b, _, e⟩ := List.mem_filterMap.mp hp
  split at e
  · cases e
  · rename_i hn
    cases q : h.get? b with
    | none => rw [q] at e; simp at e
    | some u =>
      rw [q] at e
      simp only [Option.map_some, Option.some.injEq] at e
      subst e
      refine ⟨fun z => hn (.inl z), ?_, q⟩
      show g.get? b = none
      cases r : g.get? b with
      | none => rfl
      | some v => exact (hn (.inr (by simp [r]))).elim
noncomputable def rest (g h : Heap) (L d : Addr) : List (Addr × Obj) := (allNews g h L).filter fun p => decide (p.1 ≠ d)
theorem news_all {g h : Heap} {L : Addr} : News g L h (allNews g h L) := fun p hp => let ⟨a, b, c⟩ := of_mem_allNews hp; ⟨c, a, b⟩
end L2

namespace L2
open PySem PySem.Spec PyProof.Rows

structure Mod (K : PySem.W.Frag) (mg : Str → Option Value) (base : Heap) : Prop where
  kin : K.In base
  glob : base.Ns mainGlobals mg
  blt : ∃ mb, base.Ns builtinsNs mb ∧ ∀ x : Str, x ≠ "__name__" → mb x = bootBuiltins x
  nolimit : base.NoLimit

structure Cx where
  prog : Program
  w : World
  K : PySem.W.Frag
  mg : Str → Option Value
  base : Heap
  A : Around
  N : List Str
  s₀ : Shared
  H₀ : Hp
  env : Env
  outer : List Env
  stack : List Env
  ex : List Addr
  fn : Str → Bool
  calm : Bool
  pn : List (Addr × Obj)
  xe : Value → Shared → Prop
noncomputable def frs (l : List Env) : List Addr := l.filterMap (·.frame)
noncomputable abbrev Cx.fs (X : Cx) : List Addr := frs X.outer

noncomputable def Vis (sc : Scope) (x : Str) : Prop := sc.names.lookup x = some .local ∨ sc.names.lookup x = some .cell ∨ sc.names.lookup x = some .free
noncomputable def Loc (sc : Scope) (x : Str) : Prop := sc.names.lookup x = some .local ∨ sc.names.lookup x = some .cell
noncomputable def Look (env : Env) (h : Heap) (m : Str → Option Value) (x : Str) (u : Value) : Prop :=
  (env.kindOf x = some .local ∧ m x = some u) ∨ ((env.kindOf x = some .cell ∨ env.kindOf x = some .free) ∧ ∃ c, env.cells.lookup x = some c ∧ h.IsCell c (some u))

structure Cx.Ok (X : Cx) : Prop where
  mod : Mod X.K X.mg X.base
  kind : X.env.scope.kind = .function
  glob : X.env.globals = mainGlobals
  blt : X.env.builtins = builtinsNs
  above : X.s₀.heap.objs.size ≤ X.env.locals
  inj : ∀ x y c, X.env.cells.lookup x = some c → X.env.cells.lookup y = some c → x = y
  has : ∀ x, (X.env.kindOf x = some .cell ∨ X.env.kindOf x = some .free) → ∃ c, X.env.cells.lookup x = some c
  cab : ∀ x c, X.fn x = true → X.env.cells.lookup x = some c → X.s₀.heap.objs.size ≤ c
  hd : X.calm = true → X.A.handled = none
  frames : X.A.frames = some X.stack
  stk : X.stack = X.outer ∨ (X.stack = X.env :: X.outer ∧ X.env.frame = some X.env.locals)
  exf : ∀ b ∈ X.ex, b ≠ X.env.locals ∧ ∀ x c, X.env.cells.lookup x = some c → c ≠ b
  bs : ∀ b o, X.base.get? b = some o → X.s₀.heap.get? b = some o ∧ X.H₀ b = none
  bsz : X.base.objs.size ≤ X.s₀.heap.objs.size
  noex : ∀ b o, X.base.get? b = some o → b ∉ X.ex
  exfs : ∀ b ∈ X.ex, b ∉ X.fs
  funs : X.s₀.heap.FunFrames X.base X.outer
  frf : ∀ b ∈ X.fs, X.H₀ b = none

structure Inv (X : Cx) (pins : List (Addr × Obj)) (σ : List (Option V)) (H : Hp) (s : Shared) : Prop where
  ok : X.Ok
  os : s.os = X.s₀.os
  bare : AllBare s.gens
  base : Un X.fs X.ex X.H₀ H X.s₀.heap s.heap
  loc : ∃ m, s.heap.Ns X.env.locals m ∧ ∀ (i : Nat) (x : Str) (v : V), X.N[i]? = some x → σ[i]? = some (some v) → Vis X.env.scope x → ∃ u, RelV v u ∧ Look X.env s.heap m x u
  cell : ∀ x c, X.env.cells.lookup x = some c → ∃ v, s.heap.IsCell c v
  free : H X.env.locals = none
  freeC : ∀ x c, X.env.cells.lookup x = some c → H c = none
  pin : ∀ p ∈ X.pn ++ pins, s.heap.get? p.1 = some p.2 ∧ H p.1 = none ∧ p.1 ≠ X.env.locals ∧ p.1 ∉ X.fs ∧ ∀ v, p.2.data ≠ .cell v
  hok : HOk X.prog X.w H s.heap
  len : σ.length = X.N.length

section
variable {X : Cx} {pins : List (Addr × Obj)} {σ : List (Option V)} {H H' : Hp} {s : Shared} {h' : Heap}

theorem Cx.Ok.nofr (ok : X.Ok) {b : Addr} {o : Obj} (e : X.base.get? b = some o) : b ∉ X.fs := fun hb => by
  have := (ok.funs.mem hb).1
  rw [e] at this; cases this
theorem Inv.bs (I : Inv X pins σ H s) : ∀ b o, X.base.get? b = some o → s.heap.get? b = some o ∧ H b = none := fun b o e =>
  ⟨I.base.keep b o (I.ok.bs b o e).1 (I.ok.bs b o e).2 (I.ok.nofr e) (I.ok.noex b o e), I.base.free b o (I.ok.bs b o e).1 (I.ok.bs b o e).2 (I.ok.noex b o e)⟩
theorem Inv.bk (I : Inv X pins σ H s) : ∀ b o, X.base.get? b = some o → s.heap.get? b = some o := fun b o e => (I.bs b o e).1
theorem Inv.mod (I : Inv X pins σ H s) : Mod X.K X.mg X.base := I.ok.mod
theorem Inv.kIn (I : Inv X pins σ H s) : X.K.In s.heap := I.ok.mod.kin.keeps I.bk
theorem Inv.fr (I : Inv X pins σ H s) : ∃ m, Fr X.base X.env.locals s.heap m :=
  let ⟨m, hn, _⟩ := I.loc
  ⟨m, hn, I.bk, Nat.le_trans I.ok.bsz I.ok.above⟩
theorem Inv.lt (I : Inv X pins σ H s) : X.env.locals < s.heap.objs.size := let ⟨_, hn, _⟩ := I.loc; hn.lt
theorem Inv.sz (I : Inv X pins σ H s) : X.s₀.heap.objs.size ≤ s.heap.objs.size := Nat.le_trans I.ok.above (Nat.le_of_lt I.lt)
theorem Inv.nofs (I : Inv X pins σ H s) {a : Addr} (h : s.heap.objs.size ≤ a) : a ∉ X.fs := fun hb => by
  obtain ⟨_, o, ho, _⟩ := I.ok.funs.mem hb
  exact absurd (Nat.lt_of_lt_of_le (Heap.lt_size ho) (Nat.le_trans I.sz h)) (Nat.lt_irrefl _)
theorem Inv.cne (I : Inv X pins σ H s) : ∀ x c, X.env.cells.lookup x = some c → c ≠ X.env.locals := fun x c e z => by
  obtain ⟨v, o, ho, hd⟩ := I.cell x c e
  obtain ⟨m, ⟨o', es, ep, ho', hd', _⟩, _⟩ := I.loc
  rw [z, ho'] at ho; cases ho; rw [hd'] at hd; cases hd
theorem Inv.funs (I : Inv X pins σ H s) : s.heap.FunFrames X.base X.outer := by
  have all : ∀ (l : List Env), (∀ b ∈ frs l, b ∈ X.fs) → X.s₀.heap.FunFrames X.base l → s.heap.FunFrames X.base l := by
    intro l
    induction l with
    | nil => intro _ _; trivial
    | cons env r ih =>
      intro hs hl
      obtain ⟨hk, ⟨L, o, hf, hn, ho, hd⟩, hr⟩ := hl
      have hL : L ∈ X.fs := hs L (by unfold frs; rw [List.filterMap_cons, hf]; exact List.mem_cons_self)
      obtain ⟨sl, e⟩ := I.base.slot L o ho (I.ok.frf L hL) hL fun z => I.ok.exfs L z hL
      exact ⟨hk, ⟨L, _, hf, hn, e, hd⟩, ih (fun b hb => hs b (by unfold frs; rw [List.filterMap_cons, hf]; exact List.mem_cons_of_mem _ hb)) hr⟩
  exact all X.outer (fun _ hb => hb) I.ok.funs

theorem Inv.stack (I : Inv X pins σ H s) : s.heap.FunFrames X.base X.stack := by
  rcases I.ok.stk with e | ⟨e, hf⟩
  · rw [e]; exact I.funs
  · rw [e]
    obtain ⟨m, hn, _⟩ := I.loc
    refine .cons (by rw [I.ok.kind]; decide) hf hn ?_ I.funs
    exact Heap.get?_none_of_le (Nat.le_trans I.ok.bsz I.ok.above)
theorem Inv.stkSub (I : Inv X pins σ H s) : ∀ b ∈ frs X.stack, b ∈ X.env.locals :: X.fs := fun b hb => by
  rcases I.ok.stk with e | ⟨e, hf⟩
  · rw [e] at hb; exact List.mem_cons_of_mem _ hb
  · rw [e] at hb
    unfold frs at hb
    rw [List.filterMap_cons, hf] at hb
    exact hb
theorem Inv.stkFree (I : Inv X pins σ H s) : ∀ b ∈ frs X.stack, H b = none := fun b hb => by
  rcases List.mem_cons.mp (I.stkSub b hb) with e | hb
  · rw [e]; exact I.free
  · obtain ⟨_, o, ho, _⟩ := I.ok.funs.mem hb
    exact I.base.free b o ho (I.ok.frf b hb) fun z => I.ok.exfs b z hb

theorem Inv.step {g' : Array GenState} {t' : Nat} {d' : Drawn} {ch : List Addr} (I : Inv X pins σ H s)
    (hch : ∀ b ∈ ch, (b ∈ X.ex ∨ X.s₀.heap.objs.size ≤ b) ∧ b ≠ X.env.locals ∧ (∀ x c, X.env.cells.lookup x = some c → c ≠ b) ∧ ∀ p ∈ X.pn ++ pins, p.1 ≠ b)
    (keep : ∀ b o, b ≠ X.env.locals → b ∉ X.fs → b ∉ ch → s.heap.get? b = some o → H b = none → h'.get? b = some o)
    (slot : ∀ b o, b ≠ X.env.locals → b ∈ X.fs → b ∉ ch → s.heap.get? b = some o → H b = none → ∃ sl, h'.get? b = some { o with slots := sl }) (free : ∀ b o, b ∉ ch → s.heap.get? b = some o → H b = none → H' b = none)
    (there : ∀ b o, b ∉ ch → s.heap.get? b = some o → ∃ o', h'.get? b = some o')
    (tups : ∀ b xs, H b = some (.tup xs) → H' b = some (.tup xs)) (frzs : ∀ b o u, H b = some (.frz o u) → H' b = some (.frz o u)) (tbls : ∀ b ps, H b = some (.tbl ps) → ∃ more, H' b = some (.tbl (ps ++ more)))
    (ns : ∀ m, s.heap.Ns X.env.locals m → h'.Ns X.env.locals m) (hok : HOk X.prog X.w H' h') (hg : AllBare g') :
    Inv X pins σ H' { s with heap := h', gens := g', drawn := d', toks := t' } := by
  have neL : ∀ b o, X.s₀.heap.get? b = some o → b ≠ X.env.locals := fun b o e => Nat.ne_of_lt (Nat.lt_of_lt_of_le (Heap.lt_size e) I.ok.above)
  have neC : ∀ b o, X.s₀.heap.get? b = some o → b ∉ X.ex → b ∉ ch := fun b o e hx hb => by
    rcases (hch b hb).1 with z | z
    · exact hx z
    · exact absurd (Nat.lt_of_lt_of_le (Heap.lt_size e) z) (Nat.lt_irrefl _)
  have cellK : ∀ x c, X.env.cells.lookup x = some c → ∀ v, s.heap.IsCell c v → h'.IsCell c v := fun x c e v ⟨o, ho, hd⟩ => by
    have nch : c ∉ ch := fun z => (hch c z).2.2.1 x c e rfl
    by_cases hc : c ∈ X.fs
    · obtain ⟨sl, q⟩ := slot c o (I.cne x c e) hc nch ho (I.freeC x c e)
      exact ⟨_, q, hd⟩
    · exact ⟨o, keep c o (I.cne x c e) hc nch ho (I.freeC x c e), hd⟩
  refine ⟨I.ok, I.os, hg, ⟨fun b o e n hb hx => ?_, fun b o e n hb hx => ?_, fun b o e n hx => ?_, fun b o e hx => ?_, fun b xs e => tups b xs (I.base.tups b xs e), fun b o xs e => frzs b o xs (I.base.frzs b o xs e), fun b ps e => ?_⟩, ?_, fun x c e => ?_, ?_, fun x c e => ?_, fun p hp => ?_, hok, I.len⟩
  · exact keep b o (neL b o e) hb (neC b o e hx) (I.base.keep b o e n hb hx) (I.base.free b o e n hx)
  · obtain ⟨sl, e1⟩ := I.base.slot b o e n hb hx
    obtain ⟨sl', e2⟩ := slot b _ (neL b o e) hb (neC b o e hx) e1 (I.base.free b o e n hx)
    exact ⟨sl', e2⟩
  · obtain ⟨o', e1⟩ := I.base.there b o e hx
    exact free b o' (neC b o e hx) e1 (I.base.free b o e n hx)
  · obtain ⟨o', e1⟩ := I.base.there b o e hx
    exact there b o' (neC b o e hx) e1
  · obtain ⟨m1, e1⟩ := I.base.tbls b ps e
    obtain ⟨m2, e2⟩ := tbls b _ e1
    exact ⟨m1 ++ m2, by rw [e2, Array.append_assoc]⟩
  · obtain ⟨m, hn, hl⟩ := I.loc
    refine ⟨m, ns m hn, fun i x v e1 e2 e3 => ?_⟩
    obtain ⟨u, r, l⟩ := hl i x v e1 e2 e3
    refine ⟨u, r, ?_⟩
    rcases l with l | ⟨k, c, e, z⟩
    · exact .inl l
    · exact .inr ⟨k, c, e, cellK x c e _ z⟩
  · obtain ⟨v, z⟩ := I.cell x c e
    exact ⟨v, cellK x c e v z⟩
  · obtain ⟨m, ⟨o, _, _, ho, _⟩, _⟩ := I.loc
    exact free _ o (fun z => (hch _ z).2.1 rfl) ho I.free
  · obtain ⟨v, o, ho, hd⟩ := I.cell x c e
    exact free c o (fun z => (hch c z).2.2.1 x c e rfl) ho (I.freeC x c e)
  · obtain ⟨e, n, ne, nf, d⟩ := I.pin p hp
    have nch : p.1 ∉ ch := fun z => (hch p.1 z).2.2.2 p hp rfl
    exact ⟨keep p.1 p.2 ne nf nch e n, free p.1 p.2 nch e n, ne, nf, d⟩
theorem Inv.un {t' : Nat} (I : Inv X pins σ H s) (u : Un X.fs [] H H' s.heap h') (hok : HOk X.prog X.w H' h') : Inv X pins σ H' { s with heap := h', toks := t' } := by
  obtain ⟨m, ⟨o, es, ep, ho, r⟩, _⟩ := id I.loc
  obtain ⟨sl, hL⟩ := u.any ho I.free (by simp)
  exact I.step (g' := s.gens) (d' := s.drawn) (ch := []) (fun _ z => nomatch z) (fun b o _ hb _ e n => u.keep b o e n hb (by simp)) (fun b o _ hb _ e n => u.slot b o e n hb (by simp)) (fun b o _ e n => u.free b o e n (by simp)) (fun b o _ e => u.there b o e (by simp)) u.tups u.frzs u.tbls (fun m' hm => by
    obtain ⟨o', es', ep', ho', r'⟩ := hm
    rw [ho] at ho'; cases ho'
    exact ⟨_, es', ep', hL, r'⟩) hok I.bare
theorem Inv.call {g' : Array GenState} {t' : Nat} {d' : Drawn} {ch : List Addr} (I : Inv X pins σ H s) (u : Un (frs X.stack) ch H H' s.heap h') (hok : HOk X.prog X.w H' h') (hg : AllBare g')
    (hch : ∀ b ∈ ch, (b ∈ X.ex ∨ X.s₀.heap.objs.size ≤ b) ∧ b ≠ X.env.locals ∧ (∀ x c, X.env.cells.lookup x = some c → c ≠ b) ∧ ∀ p ∈ X.pn ++ pins, p.1 ≠ b) :
    Inv X pins σ H' { s with heap := h', gens := g', drawn := d', toks := t' } := by
  obtain ⟨m, ⟨o, es, ep, ho, r⟩, _⟩ := id I.loc
  obtain ⟨sl, hL⟩ := u.any ho I.free fun z => (hch _ z).2.1 rfl
  exact I.step (ch := ch) hch (fun b o hL hb hc e n => u.keep b o e n (fun z => (List.mem_cons.mp (I.stkSub b z)).elim hL hb) hc) (fun b o _ _ hc e n => u.any e n hc) (fun b o hc e n => u.free b o e n hc) (fun b o hc e => u.there b o e hc) u.tups u.frzs u.tbls (fun m' hm => by
    obtain ⟨o', es', ep', ho', r'⟩ := hm
    rw [ho] at ho'; cases ho'
    exact ⟨_, es', ep', hL, r'⟩) hok hg
theorem Inv.turned {t' : Nat} {it : Addr} (I : Inv X pins σ H s) (k : ∀ b o, b ≠ it → s.heap.get? b = some o → h'.get? b = some o) (hn : H it = none) (hL : it ≠ X.env.locals)
    (h1 : it ∈ X.ex ∨ X.s₀.heap.objs.size ≤ it) (h2 : ∀ x c, X.env.cells.lookup x = some c → c ≠ it) (h3 : ∀ p ∈ X.pn ++ pins, p.1 ≠ it) : Inv X pins σ H { s with heap := h', toks := t' } := by
  have nit : ∀ b u, H b = some u → b ≠ it := fun b u e z => by rw [z, hn] at e; cases e
  refine I.step (g' := s.gens) (d' := s.drawn) (ch := [it]) (fun b hb => ?_) (fun b o _ _ hc e _ => k b o (fun z => hc (by simp [z])) e) (fun b o _ _ hc e _ => ⟨o.slots, k b o (fun z => hc (by simp [z])) e⟩) (fun _ _ _ _ n => n)
    (fun b o hc e => ⟨o, k b o (fun z => hc (by simp [z])) e⟩) (fun _ _ e => e) (fun _ _ _ e => e) (fun b ps e => ⟨#[], by rw [e]; simp⟩) (fun m hm => ?_) (fun b u e => ?_) I.bare
  · have e : b = it := by simpa using hb
    subst e
    exact ⟨h1, hL, h2, h3⟩
  · obtain ⟨o, es, ep, ho, r⟩ := hm
    exact ⟨o, es, ep, k _ o (Ne.symm hL) ho, r⟩
  · refine (I.hok b u e).stay (fun c v hc q => k c v ?_ q) (fun _ q => q) fun _ _ q => q
    rcases hc with z | z
    · rw [z]; exact nit b u e
    · exact nit c _ z
theorem Inv.tok (I : Inv X pins σ H s) (t : Nat) : Inv X pins σ H { s with toks := t } := I.un (h' := s.heap) (t' := t) Un.refl I.hok
theorem Inv.kept {t' : Nat} (I : Inv X pins σ H s) (k : ∀ b u, s.heap.get? b = some u → h'.get? b = some u) : Inv X pins σ H { s with heap := h', toks := t' } := I.un (Un.kept k) (I.hok.kept k)
theorem Inv.laid {a : Addr} {o : HO} {t' : Nat} (I : Inv X pins σ H s) (k : ∀ b u, s.heap.get? b = some u → h'.get? b = some u) (hp : s.heap.objs.size ≤ a) (new : ObjOk X.prog X.w (upd H a o) h' a o) :
    Inv X pins σ (upd H a o) { s with heap := h', toks := t' } := I.un (Un.laid k hp (I.hok.fresh hp)) (I.hok.laid k hp new)
theorem Inv.write {x e : Addr} {o : HO} {t' : Nat} (I : Inv X pins σ H s) (mu : Mut (H x)) (he : e = x ∨ H e = some (.own x)) (k : ∀ b u, b ≠ e → s.heap.get? b = some u → h'.get? b = some u) (heo : ∃ u, h'.get? e = some u)
    (new : ObjOk X.prog X.w (upd H x o) h' x o) : Inv X pins σ (upd H x o) { s with heap := h', toks := t' } := I.un (Un.write mu he k heo) (I.hok.write mu he k heo new)
theorem Inv.pins_of {pins' : List (Addr × Obj)} (I : Inv X pins σ H s) (h : ∀ p ∈ pins', s.heap.get? p.1 = some p.2 ∧ H p.1 = none ∧ p.1 ≠ X.env.locals ∧ p.1 ∉ X.fs ∧ ∀ v, p.2.data ≠ .cell v) : Inv X pins' σ H s :=
  ⟨I.ok, I.os, I.bare, I.base, I.loc, I.cell, I.free, I.freeC, fun p hp => (List.mem_append.mp hp).elim (fun z => I.pin p (List.mem_append_left _ z)) (h p), I.hok, I.len⟩

theorem nodup_ix {N : List Str} (hN : N.Nodup) {i j : Nat} {x : Str} (a : N[i]? = some x) (b : N[j]? = some x) : i = j := by
  obtain ⟨h1, e1⟩ := List.getElem?_eq_some_iff.mp a
  obtain ⟨h2, e2⟩ := List.getElem?_eq_some_iff.mp b
  exact (List.getElem_inj hN).mp (e1.trans e2.symm)

theorem store_ok2 {M : Model} {A : Around} {E : Value → Shared → Prop} {i : Nat} {x : Str} {v : V} {u : Value} {Q : Unit → Shared → Prop} (I : Inv X pins σ H s) (hN : X.N.Nodup) (hi : X.N[i]? = some x) (hx : Loc X.env.scope x) (r : RelV v u)
    (h : ∀ s', Inv X pins (σ.set i (some v)) H s' → (∃ a, Heap.SameBut a s.heap s'.heap ∧ (a = X.env.locals ∨ X.env.cells.lookup x = some a)) → Q () s') (hf : X.fn x = true ∨ X.env.scope.names.lookup x = some .local := by first | exact .inl rfl | exact .inr rfl | assumption) : wpAny M A (storeName X.env x u) Q E s := by
  obtain ⟨m, hn, hl⟩ := id I.loc
  have hcls : (X.env.scope.kind == .class || (X.env.scope.kind == .module && X.env.locals != X.env.globals)) = false := by rw [I.ok.kind]; rfl
  have hiσ : i < σ.length := by rw [I.len]; exact (List.getElem?_eq_some_iff.mp hi).1
  have cne := I.cne
  have tracked : ∀ {a : Addr} {h' : Heap}, (∃ o, s.heap.get? a = some o ∧ H a = none) → Heap.SameBut a s.heap h' → HOk X.prog X.w H h' := fun {a h'} ha hs b ob e => by
    obtain ⟨_, _, hfree⟩ := ha
    refine (I.hok b ob e).stay (fun c w' hc q => (hs.2 c ?_).trans q) (fun _ q => q) fun _ _ q => q
    rintro rfl
    rcases hc with rfl | hc
    · rw [hfree] at e; cases e
    · rw [hfree] at hc; cases hc
  rcases hx with hk | hk
  · refine wpAny_storeName_local hk hn (fun h' hn' hs => ?_) hcls
    obtain ⟨oL, _, _, hoL, _⟩ := id hn
    refine h _ ⟨I.ok, I.os, I.bare, ⟨fun b o e n hb hx => ?_, fun b o e n hb hx => ?_, I.base.free, fun b o e hx => ?_, I.base.tups, I.base.frzs, I.base.tbls⟩, ⟨_, hn', fun j y v' e1 e2 e3 => ?_⟩, fun y c e => ?_, I.free, I.freeC, fun p hp => ?_, tracked ⟨oL, hoL, I.free⟩ hs, by simpa using I.len⟩ ⟨_, hs, .inl rfl⟩
    · exact (hs.2 b (Nat.ne_of_lt (Nat.lt_of_lt_of_le (Heap.lt_size e) I.ok.above))).trans (I.base.keep b o e n hb hx)
    · obtain ⟨sl, e1⟩ := I.base.slot b o e n hb hx
      exact ⟨sl, (hs.2 b (Nat.ne_of_lt (Nat.lt_of_lt_of_le (Heap.lt_size e) I.ok.above))).trans e1⟩
    · obtain ⟨o', e1⟩ := I.base.there b o e hx
      exact ⟨o', (hs.2 b (Nat.ne_of_lt (Nat.lt_of_lt_of_le (Heap.lt_size e) I.ok.above))).trans e1⟩
    · by_cases hj : j = i
      · subst hj
        rw [hi] at e1; cases e1
        rw [List.getElem?_set_self hiσ] at e2
        cases e2
        exact ⟨u, r, .inl ⟨hk, by simp⟩⟩
      · rw [List.getElem?_set_ne (Ne.symm hj)] at e2
        obtain ⟨u', r', q⟩ := hl j y v' e1 e2 e3
        refine ⟨u', r', ?_⟩
        rcases q with ⟨k, e⟩ | ⟨k, c, e, z⟩
        · refine .inl ⟨k, ?_⟩
          have : y ≠ x := fun e => hj (nodup_ix hN e1 (e ▸ hi))
          simp [this, e]
        · exact .inr ⟨k, c, e, z.sameBut hs (cne y c e)⟩
    · obtain ⟨w', z⟩ := I.cell y c e
      exact ⟨w', z.sameBut hs (cne y c e)⟩
    · obtain ⟨e, n, ne, nf, d⟩ := I.pin p hp
      exact ⟨(hs.2 p.1 ne).trans e, n, ne, nf, d⟩
  · have hfn : X.fn x = true := by
      rcases hf with z | z
      · exact z
      · rw [z] at hk; cases hk
    obtain ⟨c, hc⟩ := I.ok.has x (.inl hk)
    obtain ⟨w', z⟩ := I.cell x c hc
    refine wpAny_storeName_cell I.ok.kind hk hc z (fun h' hc' hs => ?_)
    obtain ⟨oc, hoc, hocd⟩ := id z
    refine h { s with heap := h' } ⟨I.ok, I.os, I.bare, ⟨fun b o e n hb hx => ?_, fun b o e n hb hx => ?_, I.base.free, fun b o e hx => ?_, I.base.tups, I.base.frzs, I.base.tbls⟩, ⟨m, hn.sameBut hs (Ne.symm (cne x c hc)), fun j y v' e1 e2 e3 => ?_⟩, fun y c' e => ?_, I.free, I.freeC, fun p hp => ?_, tracked ⟨oc, hoc, I.freeC x c hc⟩ hs, by simpa using I.len⟩ ⟨c, hs, .inr hc⟩
    · exact (hs.2 b (Nat.ne_of_lt (Nat.lt_of_lt_of_le (Heap.lt_size e) (I.ok.cab x c hfn hc)))).trans (I.base.keep b o e n hb hx)
    · obtain ⟨sl, e1⟩ := I.base.slot b o e n hb hx
      exact ⟨sl, (hs.2 b (Nat.ne_of_lt (Nat.lt_of_lt_of_le (Heap.lt_size e) (I.ok.cab x c hfn hc)))).trans e1⟩
    · obtain ⟨o', e1⟩ := I.base.there b o e hx
      exact ⟨o', (hs.2 b (Nat.ne_of_lt (Nat.lt_of_lt_of_le (Heap.lt_size e) (I.ok.cab x c hfn hc)))).trans e1⟩
    · by_cases hj : j = i
      · subst hj
        rw [hi] at e1; cases e1
        rw [List.getElem?_set_self hiσ] at e2
        cases e2
        exact ⟨u, r, .inr ⟨.inl hk, c, hc, hc'⟩⟩
      · rw [List.getElem?_set_ne (Ne.symm hj)] at e2
        obtain ⟨u', r', q⟩ := hl j y v' e1 e2 e3
        refine ⟨u', r', ?_⟩
        rcases q with q | ⟨k, c', e, z'⟩
        · exact .inl q
        · refine .inr ⟨k, c', e, z'.sameBut hs ?_⟩
          rintro rfl
          exact hj (nodup_ix hN e1 (I.ok.inj _ _ _ e hc ▸ hi))
    · by_cases hcc : c' = c
      · subst hcc; exact ⟨_, hc'⟩
      · obtain ⟨w2, z2⟩ := I.cell y c' e
        exact ⟨w2, z2.sameBut hs hcc⟩
    · obtain ⟨e, n, ne, nf, d⟩ := I.pin p hp
      refine ⟨(hs.2 p.1 ?_).trans e, n, ne, nf, d⟩
      intro q
      rw [q, hoc] at e
      have q' : oc = p.2 := Option.some.inj e
      exact d w' (by rw [← q']; exact hocd)
theorem store_ok {M : Model} {A : Around} {E : Value → Shared → Prop} {i : Nat} {x : Str} {v : V} {u : Value} {Q : Unit → Shared → Prop} (I : Inv X pins σ H s) (hN : X.N.Nodup) (hi : X.N[i]? = some x) (hx : Loc X.env.scope x) (r : RelV v u)
    (h : ∀ s', Inv X pins (σ.set i (some v)) H s' → Q () s') (hf : X.fn x = true ∨ X.env.scope.names.lookup x = some .local := by first | exact .inl rfl | exact .inr rfl | assumption) : wpAny M A (storeName X.env x u) Q E s :=
  store_ok2 I hN hi hx r (fun s' I' _ => h s' I') hf
theorem Inv.call' {s' : Shared} {ch : List Addr} (I : Inv X pins σ H s) (ho : s'.os = s.os) (u : Un (frs X.stack) ch H H' s.heap s'.heap) (hok : HOk X.prog X.w H' s'.heap) (hg : AllBare s'.gens)
    (hch : ∀ b ∈ ch, (b ∈ X.ex ∨ X.s₀.heap.objs.size ≤ b) ∧ b ≠ X.env.locals ∧ (∀ x c, X.env.cells.lookup x = some c → c ≠ b) ∧ ∀ p ∈ X.pn ++ pins, p.1 ≠ b) : Inv X pins σ H' s' := by
  obtain ⟨h', g', d', t', o'⟩ := s'
  have e : o' = s.os := ho
  subst e
  exact I.call (g' := g') (t' := t') (d' := d') u hok hg hch
end

noncomputable abbrev XK := Value → Option Addr → Hp → Prop
noncomputable abbrev St := List (Option V)
noncomputable abbrev VK := V → Hp → Prop
noncomputable abbrev TE := St → Hp → VK → Prop
noncomputable abbrev TT := St → Hp → (Bool → Hp → Prop) → Prop
noncomputable abbrev TA := St → Hp → (List V → Hp → Prop) → Prop
structure Ends where
  nx : St → Hp → Prop
  rt : VK
  bk : St → Hp → Prop := fun _ _ => False
  ct : St → Hp → Prop := fun _ _ => False
noncomputable abbrev TS := Ends → St → Hp → Prop

noncomputable def EP (X : Cx) (pins : List (Addr × Obj)) (σ : St) (Q : VK) (u : Value) (s' : Shared) : Prop := ∃ v H', Inv X pins σ H' s' ∧ RelV v u ∧ Q v H'
noncomputable def TP (X : Cx) (pins : List (Addr × Obj)) (σ : St) (Q : Bool → Hp → Prop) (b : Bool) (s' : Shared) : Prop := ∃ H', Inv X pins σ H' s' ∧ Q b H'
noncomputable def AP (X : Cx) (pins : List (Addr × Obj)) (σ : St) (Q : List V → Hp → Prop) (us : List Value) (s' : Shared) : Prop := ∃ vs H', Inv X pins σ H' s' ∧ Vals vs us ∧ Q vs H'
noncomputable def SP (X : Cx) (pins : List (Addr × Obj)) (D : Ends) (f : Flow) (s' : Shared) : Prop :=
  match f with
  | .next => ∃ σ' H', Inv X pins σ' H' s' ∧ D.nx σ' H'
  | .brk => ∃ σ' H', Inv X pins σ' H' s' ∧ D.bk σ' H'
  | .cont => ∃ σ' H', Inv X pins σ' H' s' ∧ D.ct σ' H'
  | .ret u => ∃ v σ' H', Inv X pins σ' H' s' ∧ RelV v u ∧ D.rt v H'

noncomputable def PE (X : Cx) (e : Expr) (t : TE) : Prop :=
  ∀ (pins : List (Addr × Obj)) (s : Shared) (σ : St) (H : Hp) (Q : VK), Inv X pins σ H s → t σ H Q → wpAny (model X.prog X.w) X.A (eval e X.env) (EP X pins σ Q) X.xe s
noncomputable def PT (X : Cx) (e : Expr) (t : TT) : Prop :=
  ∀ (pins : List (Addr × Obj)) (s : Shared) (σ : St) (H : Hp) (Q : Bool → Hp → Prop), Inv X pins σ H s → t σ H Q → wpAny (model X.prog X.w) X.A (isTrue e X.env (eval e X.env)) (TP X pins σ Q) X.xe s
noncomputable def PW (X : Cx) (e : Expr) (t : TT) : Prop :=
  ∀ (whole : Sem Value) (pins : List (Addr × Obj)) (s : Shared) (σ : St) (H : Hp) (Q : Bool → Hp → Prop), Inv X pins σ H s → t σ H Q → wpAny (model X.prog X.w) X.A (isTrue e X.env whole) (TP X pins σ Q) X.xe s
theorem PW.pt {X : Cx} {e : Expr} {t : TT} (h : PW X e t) : PT X e t := h _
noncomputable def PA (X : Cx) (es : List Expr) (t : TA) : Prop :=
  ∀ (pos : Pos) (pins : List (Addr × Obj)) (s : Shared) (σ : St) (H : Hp) (Q : List V → Hp → Prop), Inv X pins σ H s → t σ H Q → wpAny (model X.prog X.w) X.A (spliced (backTo pos (starEach es X.env))) (AP X pins σ Q) X.xe s
noncomputable def PS (X : Cx) (st : Stmt) (t : TS) : Prop :=
  ∀ (pins : List (Addr × Obj)) (s : Shared) (σ : St) (H : Hp) (D : Ends), Inv X pins σ H s → t D σ H → wpAny (model X.prog X.w) X.A (exec st X.env) (SP X pins D) X.xe s
noncomputable def PSs (X : Cx) (st : List Stmt) (t : TS) : Prop :=
  ∀ (pins : List (Addr × Obj)) (s : Shared) (σ : St) (H : Hp) (D : Ends), Inv X pins σ H s → t D σ H → wpAny (model X.prog X.w) X.A (execs st X.env) (SP X pins D) X.xe s
theorem thn {α : Type} {t : Sem α} {Q Q' : α → Shared → Prop} {M : Model} {A : Around} {E : Value → Shared → Prop} {s : Shared} (h : wpAny M A t Q E s) (hQ : ∀ a s, Q a s → Q' a s) : wpAny M A t Q' E s := wpAny_mono h hQ fun _ _ x => x
end L2

namespace L2
open PySem PySem.Spec PyProof.Rows
section
variable {X : Cx}

noncomputable def tVar (i : Nat) : TE := fun σ H Q => ∃ v, σ[i]? = some (some v) ∧ Q v H
noncomputable def tC (v : V) : TE := fun _ H Q => Q v H
theorem pe_var {i : Nat} {x : Str} {pos : Pos} (hN : X.N[i]? = some x) (hv : Vis X.env.scope x) (hd : (x == ("__debug__" : Str)) = false := by decide) (hcd : (x == ("__classdict__" : Str)) = false := by decide) : PE X (.Name x pos) (tVar i) := by
  intro pins s σ H Q I h
  obtain ⟨v, e, h⟩ := h
  obtain ⟨m, hn, hl⟩ := I.loc
  obtain ⟨u, r, l⟩ := hl i x v hN e hv
  have fin : EP X pins σ Q u s := ⟨v, H, I, r, h⟩
  rcases l with ⟨hk, hm⟩ | ⟨hk, c, hc, hcell⟩
  · exact wpAny_Name (wpAny_loadName_local I.ok.kind hk hn hm fin) hd
  · rcases hk with hk | hk
    · exact wpAny_Name (wpAny_loadName_cell I.ok.kind hk hc hcell fin) hd
    · exact wpAny_Name (wpAny_loadName_free I.ok.kind hk hc hcell fin hcd) hd
theorem pe_int {i j pos} : PE X (.Constant (.int i) j pos) (tC (.int i)) := fun _ _ _ H _ I h => wpAny_Constant_int ⟨.int i, H, I.tok _, ⟨_, rfl⟩, h⟩
theorem pe_bl {b j pos} : PE X (.Constant (.bool b) j pos) (tC (.bl b)) := fun _ _ _ H _ I h => Constant_bool ⟨.bl b, H, I, rfl, h⟩
theorem pe_str {x j pos} : PE X (.Constant (.str x) j pos) (tC (.str x)) := fun _ _ _ H _ I h => Calls.Constant_str ⟨.str x, H, I.tok _, ⟨_, rfl⟩, h⟩

noncomputable def Gl (X : Cx) (x : Str) : Prop := X.env.kindOf x = some .globalImplicit
theorem ld_glob {E : Value → Shared → Prop} {pins : List (Addr × Obj)} {s : Shared} {σ : St} {H : Hp} {x : Str} {u : Value} {pos : Pos} {Q : Value → Shared → Prop} (I : Inv X pins σ H s) (hg : Gl X x) (hm : X.mg x = some u) (h : Q u s)
    (hd : (x == ("__debug__" : Str)) = false := by decide) : wpAny (model X.prog X.w) X.A (eval (.Name x pos) X.env) Q E s :=
  Calls.Name_function_global I.ok.kind hg (Calls.loadGlobal_global (by rw [I.ok.glob]; exact I.mod.glob.keeps I.bk) hm h) hd
theorem ld_blt {E : Value → Shared → Prop} {pins : List (Addr × Obj)} {s : Shared} {σ : St} {H : Hp} {x : Str} {u : Value} {pos : Pos} {Q : Value → Shared → Prop} (I : Inv X pins σ H s) (hg : Gl X x) (hm : X.mg x = none) (hv : bootBuiltins x = some u) (h : Q u s)
    (hn : x ≠ "__name__" := by decide) (hd : (x == ("__debug__" : Str)) = false := by decide) : wpAny (model X.prog X.w) X.A (eval (.Name x pos) X.env) Q E s := by
  obtain ⟨mb, h1, h2⟩ := I.mod.blt
  exact Calls.Name_function_global I.ok.kind hg (Calls.loadGlobal_builtin (by rw [I.ok.glob]; exact I.mod.glob.keeps I.bk) hm (by rw [I.ok.blt]; exact h1.keeps I.bk) ((h2 x hn).trans hv) h) hd
theorem pe_glob {x : Str} {v : V} {u : Value} {pos : Pos} (hg : Gl X x) (hm : X.mg x = some u) (r : RelV v u) (hd : (x == ("__debug__" : Str)) = false := by decide) : PE X (.Name x pos) (tC v) :=
  fun _ _ _ H _ I h => ld_glob I hg hm ⟨v, H, I, r, h⟩ hd
theorem pe_bltn {x : Str} {v : V} {u : Value} {pos : Pos} (hg : Gl X x) (hm : X.mg x = none) (hv : bootBuiltins x = some u) (r : RelV v u) (hn : x ≠ "__name__" := by decide) (hd : (x == ("__debug__" : Str)) = false := by decide) : PE X (.Name x pos) (tC v) :=
  fun _ _ _ H _ I h => ld_blt I hg hm hv ⟨v, H, I, r, h⟩ hn hd

variable {a b : Expr} {ta tb : TE} {pos : Pos}

noncomputable def PC (X : Cx) (op : CmpOp) (a b : Expr) (t : TE) : Prop :=
  ∀ (pins : List (Addr × Obj)) (s : Shared) (σ : St) (H : Hp) (Q : VK), Inv X pins σ H s → t σ H Q →
    wpAny (model X.prog X.w) X.A (eval a X.env) (fun v s₁ => wpAny (model X.prog X.w) X.A (eval b X.env) (fun u s₂ => wpAny (model X.prog X.w) X.A (compareOp op v u) (EP X pins σ Q) X.xe s₂) X.xe s₁) X.xe s
theorem nobehind (b : Expr) {op : CmpOp} (h : op ≠ .In) (h2 : op ≠ .NotIn) : behindInMarks op b = false := by
  have e1 : (op == CmpOp.In) = false := by cases op <;> first | rfl | exact absurd rfl h
  have e2 : (op == CmpOp.NotIn) = false := by cases op <;> first | rfl | exact absurd rfl h2
  cases b <;> simp [behindInMarks, e1, e2]
noncomputable def tB (t : TE) : TT := fun σ H Q => t σ H fun x H1 => ∃ c, x = .bl c ∧ Q c H1
theorem pt_cmp {op : CmpOp} {t : TE} (h : PC X op a b t) (h1 : behindInMarks op b = false := by first | exact nobehind _ (by decide) (by decide) | rfl) : PT X (.Compare a [op] [b] pos) (tB t) := by
  intro pins s σ H Q I hw
  refine wpAny_isTrue_Compare1 (thn (h pins s σ H _ I hw) fun v s1 h1 => thn h1 fun u s2 h2 => thn h2 ?_) h1
  rintro c s3 ⟨x, H1, I1, r1, q1⟩
  obtain ⟨d, rfl, q⟩ := q1
  cases r1
  exact wpAny_truthy_bool ⟨H1, I1, q⟩
theorem pt_val {e : Expr} {t : TE} (h : PE X e t) (he : ∀ whole, isTrue e X.env whole = (do let v ← whole; standAt e.pos; holding [v] (truthy v)) := by intro _; rfl) : PT X e (tB t) := by
  intro pins s σ H Q I hw
  refine isTrue_plain (thn (h pins s σ H _ I hw) ?_) (he _)
  rintro v s1 ⟨x, H1, I1, r1, q1⟩
  obtain ⟨d, rfl, q⟩ := q1
  cases r1
  exact wpAny_truthy_bool ⟨H1, I1, q⟩

variable {tA tB' : TT} {rest : List Expr}
noncomputable def tAnd (t u : TT) : TT := fun σ H Q => t σ H fun c H1 => if c = true then u σ H1 Q else Q false H1
noncomputable def tOr (t u : TT) : TT := fun σ H Q => t σ H fun c H1 => if c = true then Q true H1 else u σ H1 Q
noncomputable def tNot (t : TT) : TT := fun σ H Q => t σ H fun c H1 => Q (!c) H1
theorem pw_and1 (ha : PT X a tA) : PW X (.BoolOp .And [a] pos) tA := by
  intro wh pins s σ H Q I h
  refine isTrue_and (thn (ha pins s σ H Q I h) fun c s1 e => ?_)
  cases c with
  | true => exact isTrue_and_nil e
  | false => exact e
theorem pw_or1 (ha : PT X a tA) : PW X (.BoolOp .Or [a] pos) tA := by
  intro wh pins s σ H Q I h
  refine isTrue_or (thn (ha pins s σ H Q I h) fun c s1 e => ?_)
  cases c with
  | false => exact isTrue_or_nil e
  | true => exact e
theorem pw_and (ha : PT X a tA) (hb : PW X (.BoolOp .And (b :: rest) pos) tB') : PW X (.BoolOp .And (a :: b :: rest) pos) (tAnd tA tB') := by
  intro wh pins s σ H Q I h
  refine isTrue_and (thn (ha pins s σ H _ I h) ?_)
  rintro c s1 ⟨H1, I1, q1⟩
  cases c with
  | true => exact hb wh pins s1 σ H1 Q I1 q1
  | false => exact ⟨H1, I1, q1⟩
theorem pw_or (ha : PT X a tA) (hb : PW X (.BoolOp .Or (b :: rest) pos) tB') : PW X (.BoolOp .Or (a :: b :: rest) pos) (tOr tA tB') := by
  intro wh pins s σ H Q I h
  refine isTrue_or (thn (ha pins s σ H _ I h) ?_)
  rintro c s1 ⟨H1, I1, q1⟩
  cases c with
  | true => exact ⟨H1, I1, q1⟩
  | false => exact hb wh pins s1 σ H1 Q I1 q1
theorem pt_not (ha : PT X a tA) : PT X (.UnaryOp .Not a pos) (tNot tA) := by
  intro pins s σ H Q I h
  exact isTrue_not (ha pins s σ H (fun c H1 => Q (!c) H1) I h)
noncomputable def tAndV (ta tb : TE) : TE := fun σ H Q => ta σ H fun x H1 => ∃ c, x = .bl c ∧ if c = true then tb σ H1 Q else Q (.bl false) H1
noncomputable def tNotV (ta : TE) : TE := fun σ H Q => ta σ H fun x H1 => ∃ c, x = .bl c ∧ Q (.bl (!c)) H1
theorem pe_one {op} {t : TE} (h : PE X a t) : PE X (.BoolOp op [a] pos) t := fun pins s σ H Q I hw => BoolOp_one (h pins s σ H Q I hw)
theorem pe_and (ha : PE X a ta) (hb : PE X (.BoolOp .And (b :: rest) pos) tb) : PE X (.BoolOp .And (a :: b :: rest) pos) (tAndV ta tb) := by
  intro pins s σ H Q I h
  refine BoolOp_and (thn (ha pins s σ H _ I h) ?_)
  rintro v s1 ⟨x, H1, I1, r1, q1⟩
  obtain ⟨c, rfl, q1⟩ := q1
  cases r1
  refine wpAny_truthy_bool ?_
  cases c with
  | true => exact hb pins s1 σ H1 Q I1 q1
  | false => exact ⟨.bl false, H1, I1, rfl, q1⟩
theorem pe_not (ha : PE X a ta) : PE X (.UnaryOp .Not a pos) (tNotV ta) := by
  intro pins s σ H Q I h
  refine UnaryOp_ (thn (ha pins s σ H _ I h) ?_)
  rintro v s1 ⟨x, H1, I1, r1, q1⟩
  obtain ⟨c, rfl, q1⟩ := q1
  cases r1
  exact not_of (wpAny_truthy_bool ⟨.bl (!c), H1, I1, rfl, q1⟩)
end
end L2

namespace L2
open PySem PySem.Spec PyProof.Rows

noncomputable def SqL (K : PySem.W.Frag) (H : Hp) (a : Addr) (xs : List V) : Prop :=
  Rd H a (.lst xs) ∨
    ∃ (o : Obj) (its : Array Value) (n : Nat), K.lookup a = some o ∧ o.cls = .type "list" ∧ o.dict = none ∧ o.data = .seq its n ∧ its.size ≤ sizeLine ∧ Vals xs its.toList
noncomputable def SqT (K : PySem.W.Frag) (H : Hp) (a : Addr) (xs : List V) : Prop :=
  Rd H a (.tup xs) ∨
    ∃ (o : Obj) (its : Array Value) (n : Nat), K.lookup a = some o ∧ o.cls = .type "tuple" ∧ o.data = .seq its n ∧ its.size ≤ sizeLine ∧ Vals xs its.toList
noncomputable def absV : Value → Option V
  | .none => some .non
  | .bool b => some (.bl b)
  | .int i _ => some (.int i)
  | .str x _ => some (.str x)
  | .bytes b _ => some (.byt b)
  | .float b _ => some (.flt b)
  | .ref a => some (.ref a)
  | .type n => some (.ty n)
  | _ => none
theorem RelV.abs {x : V} {u : Value} (r : RelV x u) : absV u = some x := by
  cases x with
  | non => cases r; rfl
  | bl _ => cases r; rfl
  | int _ => obtain ⟨t, rfl⟩ := r; rfl
  | str _ => obtain ⟨t, rfl⟩ := r; rfl
  | byt _ => obtain ⟨t, rfl⟩ := r; rfl
  | flt _ => obtain ⟨t, rfl⟩ := r; rfl
  | ref _ => cases r; rfl
  | ty _ => cases r; rfl
theorem RelV.inj {x y : V} {u : Value} (r : RelV x u) (q : RelV y u) : x = y := Option.some.inj (r.abs.symm.trans q.abs)
theorem Vals.inj : ∀ {xs ys : List V} {us : List Value}, Vals xs us → Vals ys us → xs = ys
  | _, _, _, .nil, .nil => rfl
  | _, _, _, .cons r t, .cons r' t' => by rw [r.inj r', Vals.inj t t']
section
variable {X : Cx} {pins : List (Addr × Obj)} {σ : St} {H : Hp} {s : Shared} {a : Addr} {xs ys : List V}
theorem SqL.of {K : PySem.W.Frag} (h : H a = some (.lst xs)) : SqL K H a xs := .inl (.inl h)
theorem SqT.of {K : PySem.W.Frag} (h : H a = some (.tup xs)) : SqT K H a xs := .inl (.inl h)
theorem Inv.list (I : Inv X pins σ H s) (h : SqL X.K H a xs) : ∃ its : List Value, Vals xs its ∧ PlainL s.heap a its.toArray ∧ xs.length ≤ sizeLine := by
  rcases h with h | ⟨o, its, n, hk, hc, hd, hs, hz, r⟩
  · obtain ⟨z, its, n, r, e⟩ := h.ok I.hok
    exact ⟨its, r, ⟨_, n, e, rfl, rfl, rfl⟩, z⟩
  · refine ⟨its.toList, r, ⟨o, n, I.kIn a o hk, hc, hd, by simpa using hs⟩, ?_⟩
    have e := r.length
    simp only [Array.length_toList] at e
    omega
theorem Inv.tuple (I : Inv X pins σ H s) (h : SqT X.K H a xs) : ∃ its : List Value, Vals xs its ∧ IsTup s.heap a its.toArray ∧ xs.length ≤ sizeLine := by
  rcases h with h | ⟨o, its, n, hk, hc, hs, hz, r⟩
  · obtain ⟨z, its, r, p⟩ := h.ok I.hok
    exact ⟨its, r, p, z⟩
  · refine ⟨its.toList, r, ⟨o, I.kIn a o hk, hc, n, by simpa using hs⟩, ?_⟩
    have e := r.length
    simp only [Array.length_toList] at e
    omega
theorem Inv.list_inj (I : Inv X pins σ H s) (h : SqL X.K H a xs) (h' : SqL X.K H a ys) : xs = ys := by
  obtain ⟨its, r, ⟨o, n, e, _, _, d⟩, _⟩ := I.list h
  obtain ⟨its', r', ⟨o', n', e', _, _, d'⟩, _⟩ := I.list h'
  rw [e] at e'; cases e'
  rw [d] at d'
  injection d' with d1 _
  have : its = its' := by simpa using congrArg Array.toList d1
  subst this
  exact r.inj r'
theorem Inv.tuple_inj (I : Inv X pins σ H s) (h : SqT X.K H a xs) (h' : SqT X.K H a ys) : xs = ys := by
  obtain ⟨its, r, ⟨o, e, _, n, d⟩, _⟩ := I.tuple h
  obtain ⟨its', r', ⟨o', e', _, n', d'⟩, _⟩ := I.tuple h'
  rw [e] at e'; cases e'
  rw [d] at d'
  injection d' with d1 _
  have : its = its' := by simpa using congrArg Array.toList d1
  subst this
  exact r.inj r'
end

noncomputable abbrev Cx.wish (X : Cx) (E : Value → Shared → Prop) : Cx := { X with xe := E }
noncomputable abbrev Cx.nox (X : Cx) : Cx := X.wish fun _ _ => False
theorem Cx.Ok.wish {X : Cx} (ok : X.Ok) (E : Value → Shared → Prop) : (X.wish E).Ok :=
  ⟨ok.mod, ok.kind, ok.glob, ok.blt, ok.above, ok.inj, ok.has, ok.cab, ok.hd, ok.frames, ok.stk, ok.exf, ok.bs, ok.bsz, ok.noex, ok.exfs, ok.funs, ok.frf⟩
theorem Cx.Ok.unwish {X : Cx} {E : Value → Shared → Prop} (ok : (X.wish E).Ok) : X.Ok :=
  ⟨ok.mod, ok.kind, ok.glob, ok.blt, ok.above, ok.inj, ok.has, ok.cab, ok.hd, ok.frames, ok.stk, ok.exf, ok.bs, ok.bsz, ok.noex, ok.exfs, ok.funs, ok.frf⟩
section
variable {X : Cx} {pins : List (Addr × Obj)} {σ : St} {H : Hp} {s : Shared} {E : Value → Shared → Prop}
theorem Inv.wish (I : Inv X pins σ H s) (E : Value → Shared → Prop) : Inv (X.wish E) pins σ H s := ⟨I.ok.wish E, I.os, I.bare, I.base, I.loc, I.cell, I.free, I.freeC, I.pin, I.hok, I.len⟩
theorem Inv.unwish (I : Inv (X.wish E) pins σ H s) : Inv X pins σ H s := ⟨I.ok.unwish, I.os, I.bare, I.base, I.loc, I.cell, I.free, I.freeC, I.pin, I.hok, I.len⟩
theorem SP.unwish {D : Ends} {f : Flow} {s' : Shared} (h : SP (X.wish E) pins D f s') : SP X pins D f s' := by
  cases f with
  | next => obtain ⟨σ', H', I, q⟩ := h; exact ⟨σ', H', I.unwish, q⟩
  | brk => obtain ⟨σ', H', I, q⟩ := h; exact ⟨σ', H', I.unwish, q⟩
  | cont => obtain ⟨σ', H', I, q⟩ := h; exact ⟨σ', H', I.unwish, q⟩
  | ret u => obtain ⟨v, σ', H', I, r, q⟩ := h; exact ⟨v, σ', H', I.unwish, r, q⟩
theorem PSs.nox {st : List Stmt} {t : TS} (h : PSs X.nox st t) : PSs X st t := fun pins s σ H D I hw =>
  wpAny_mono (h pins s σ H D (I.wish _) hw) (fun _ _ q => q.unwish) fun _ _ z => False.elim z
end

section
variable {X : Cx} {st : Stmt} {rest : List Stmt} {t u : TS} {e : Expr} {te : TE} {pos : Pos}
noncomputable def tNext : TS := fun D σ H => D.nx σ H
noncomputable def tSeq (t u : TS) : TS := fun D σ H => t { D with nx := u D } σ H
theorem pss_nil : PSs X [] tNext := fun _ _ σ H _ I h => wpAny_execs_nil ⟨σ, H, I, h⟩
theorem pss_cons (h1 : PS X st t) (h2 : PSs X rest u) : PSs X (st :: rest) (tSeq t u) := by
  intro pins s σ H D I h
  refine wpAny_execs_cons (thn (h1 pins s σ H { D with nx := u D } I h) fun f s1 q => ?_)
  cases f with
  | next =>
    obtain ⟨σ', H', I', q⟩ := q
    exact h2 pins s1 σ' H' D I' q
  | ret v => exact q
  | brk => exact q
  | cont => exact q
theorem pss_one (h1 : PS X st t) : PSs X [st] t := by
  intro pins s σ H D I h
  refine wpAny_execs_cons (thn (h1 pins s σ H D I h) fun f s1 q => ?_)
  cases f with
  | next => exact wpAny_execs_nil q
  | ret v => exact q
  | brk => exact q
  | cont => exact q
theorem Inv.quiet {pins : List (Addr × Obj)} {σ : St} {H : Hp} {s : Shared} (I : Inv X pins σ H s) : interactive X.env = false := by simp [interactive, I.ok.kind]
noncomputable def tDrop (te : TE) : TS := fun D σ H => te σ H fun _ H1 => D.nx σ H1
theorem ps_expr (he : PE X e te) (hs : swapsWith e none pos.line X.env = pure false := by rfl) : PS X (.Expr e pos) (tDrop te) := by
  intro pins s σ H D I h
  exact wpAny_Expr_any (thn (he pins s σ H _ I h) fun v s1 ⟨x, H1, I1, r1, q1⟩ => ⟨σ, H1, I1, q1⟩) I.quiet hs
noncomputable def tRet (te : TE) : TS := fun D σ H => te σ H D.rt
theorem ps_ret (he : PE X e te) : PS X (.Return (some e) pos) (tRet te) := by
  intro pins s σ H D I h
  exact wpAny_Return_some (thn (he pins s σ H _ I h) fun v s1 ⟨x, H1, I1, r1, q1⟩ => ⟨x, σ, H1, I1, r1, q1⟩)
noncomputable def tIfS (c : TT) (t u : TS) : TS := fun D σ H => c σ H fun b H1 => if b = true then t D σ H1 else u D σ H1
theorem ps_if {c : Expr} {a b : List Stmt} {tc : TT} (hc : PT X c tc) (ha : PSs X a t) (hb : PSs X b u) : PS X (.If c a b pos) (tIfS tc t u) := by
  intro pins s σ H D I h
  refine wpAny_If (thn (hc pins s σ H _ I h) ?_)
  rintro d s1 ⟨H1, I1, q1⟩
  cases d with
  | true => exact ha pins s1 σ H1 D I1 q1
  | false => exact hb pins s1 σ H1 D I1 q1
noncomputable def tNever : TS := fun _ _ _ => False
theorem ps_never : PS X st tNever := fun _ _ _ _ _ _ h => h.elim
end

noncomputable abbrev TG := V → St → Hp → (St → Hp → Prop) → Prop
noncomputable abbrev TGs := List V → St → Hp → (St → Hp → Prop) → Prop
noncomputable def PG (X : Cx) (target : Expr) (t : TG) : Prop :=
  ∀ (pins : List (Addr × Obj)) (s : Shared) (σ : St) (H : Hp) (v : V) (u : Value) (Q : St → Hp → Prop), Inv X pins σ H s → RelV v u → t v σ H Q →
    wpAny (model X.prog X.w) X.A (assign target X.env u) (fun _ s' => ∃ σ' H', Inv X pins σ' H' s' ∧ Q σ' H') X.xe s
noncomputable def PGs (X : Cx) (ts : List Expr) (t : TGs) : Prop :=
  ∀ (pins : List (Addr × Obj)) (s : Shared) (σ : St) (H : Hp) (vs : List V) (us : List Value) (Q : St → Hp → Prop), Inv X pins σ H s → Vals vs us → t vs σ H Q →
    wpAny (model X.prog X.w) X.A (assignInOrder ((assignEach ts X.env).map (·.2)) us) (fun _ s' => ∃ σ' H', Inv X pins σ' H' s' ∧ Q σ' H') X.xe s
section
variable {X : Cx} {pos : Pos}
noncomputable def gName (i : Nat) : TG := fun v σ H Q => Q (σ.set i (some v)) H
theorem pg_name {i : Nat} {x : Str} (hN : X.N.Nodup) (hi : X.N[i]? = some x) (hx : Loc X.env.scope x) (hf : X.fn x = true ∨ X.env.scope.names.lookup x = some .local := by first | exact .inl rfl | exact .inr rfl | assumption) : PG X (.Name x pos) (gName i) := by
  intro pins s σ H v u Q I r h
  exact wpAny_assign_Name (store_ok I hN hi hx r (fun s' I' => ⟨_, H, I', h⟩) hf)
noncomputable def gNil : TGs := fun vs σ H Q => vs = [] ∧ Q σ H
noncomputable def gCons (t : TG) (u : TGs) : TGs := fun vs σ H Q => ∃ v r, vs = v :: r ∧ t v σ H fun σ' H' => u r σ' H' Q
theorem pgs_nil : PGs X [] gNil := by
  intro pins s σ H vs us Q I r h
  obtain ⟨e, h⟩ := h
  subst e
  cases r
  exact assignInOrder_nil ⟨σ, H, I, h⟩
theorem pgs_cons {e : Expr} {es : List Expr} {t : TG} {u : TGs} (h1 : PG X e t) (h2 : PGs X es u)
    (hs : (assignEach (e :: es) X.env).map (·.2) = assign e X.env :: (assignEach es X.env).map (·.2) := by rfl) : PGs X (e :: es) (gCons t u) := by
  intro pins s σ H vs us Q I r h
  obtain ⟨v, vr, e1, h⟩ := h
  subst e1
  cases r with
  | cons r rr =>
    rw [hs]
    refine assignInOrder_cons (thn (h1 pins s σ H _ _ _ I r h) ?_)
    rintro _ s1 ⟨σ1, H1, I1, q1⟩
    exact h2 pins s1 σ1 H1 _ _ Q I1 rr q1
noncomputable def gTup (K : PySem.W.Frag) (n : Nat) (t : TGs) : TG := fun v σ H Q => ∃ a xs, v = .ref a ∧ SqT K H a xs ∧ xs.length = n ∧ t xs σ H Q
theorem pg_tup {es : List Expr} {k : Nat} {t : TGs} {n : Nat} (hc : X.calm = true) (h : PGs X es t)
    (hn : (assignEach es X.env).length = n := by rfl) (hst : (assignEach es X.env).findIdx? (·.1) = none := by rfl) : PG X (.Tuple es k pos) (gTup X.K n t) := by
  intro pins s σ H v u Q I r hw
  obtain ⟨a, xs, e1, hq, hl, hw⟩ := hw
  subst e1
  cases r
  obtain ⟨its, rv, ht, hz⟩ := I.tuple hq
  refine assign_Tuple_tuple (I.ok.hd hc) ht (by simp [hn, ← hl, rv.length]) hst fun h' hx => ?_
  have I1 : Inv X pins σ H { s with heap := h' } := I.kept (t' := s.toks) fun b o e => hx b o (Nat.ne_of_lt (Heap.lt_size e)) e
  exact h pins _ σ H xs _ Q I1 (by simpa using rv) hw
noncomputable def tAsg (te : TE) (g : TG) : TS := fun D σ H => te σ H fun x H1 => g x σ H1 D.nx
theorem ps_set {i : Nat} {x : Str} {e : Expr} {te : TE} {pos' : Pos} (hN : X.N.Nodup) (hi : X.N[i]? = some x) (hx : Loc X.env.scope x) (he : PE X e te) (hs : swapsWith e (some (.Name x pos')) pos.line X.env = pure false := by rfl) (hf : X.fn x = true ∨ X.env.scope.names.lookup x = some .local := by first | exact .inl rfl | exact .inr rfl | assumption) :
    PS X (.Assign [.Name x pos'] e pos) (tAsg te (gName i)) := by
  intro pins s σ H D I h
  refine wpAny_Assign_Name (thn (he pins s σ H _ I h) ?_) hs
  rintro v s1 ⟨y, H1, I1, r1, q1⟩
  exact store_ok I1 hN hi hx r1 (fun s2 I2 => ⟨_, H1, I2, q1⟩) hf
end

section
variable {X : Cx} {pos : Pos}
end

structure It where
  go : Nat → Hp → Prop
  yld : Nat → Hp → V → Hp → Prop
  stop : Nat → Hp → Prop
noncomputable def FpOk (X : Cx) (pins : List (Addr × Obj)) (H : Hp) (b : Addr) : Prop :=
  H b = none ∧ b ≠ X.env.locals ∧ b ∉ X.fs ∧ (b ∈ X.ex ∨ X.s₀.heap.objs.size ≤ b) ∧ (∀ x c, X.env.cells.lookup x = some c → c ≠ b) ∧ ∀ p ∈ X.pn ++ pins, p.1 ≠ b
theorem Inv.fpOk {X : Cx} {pins : List (Addr × Obj)} {σ : St} {H H' : Hp} {s : Shared} {b : Addr} (I : Inv X pins σ H s) (hb : s.heap.objs.size ≤ b) (hn : H' b = none) : FpOk X pins H' b := by
  refine ⟨hn, Nat.ne_of_gt (Nat.lt_of_lt_of_le I.lt hb), I.nofs hb, .inr (Nat.le_trans I.sz hb), fun x c e z => ?_, fun p hp z => ?_⟩
  · obtain ⟨v, q⟩ := I.cell x c e
    exact absurd (Nat.lt_of_lt_of_le q.lt (by rw [z]; exact hb)) (Nat.lt_irrefl _)
  · exact absurd (Nat.lt_of_lt_of_le (Heap.lt_size (I.pin p hp).1) (by rw [z]; exact hb)) (Nat.lt_irrefl _)
structure Turn (P : Program) (w : World) (K : PySem.W.Frag) (tg : Expr) (J : It) (fp : List Addr) (it : Addr) (tn : Nat → Heap → Prop) : Prop where
  mem : it ∈ fp
  obj : ∀ i h, tn i h → ∀ b ∈ fp, ∃ o, h.get? b = some o ∧ ∀ v, o.data ≠ .cell v
  keep : ∀ i h h', tn i h → (∀ b ∈ fp, ∀ o, h.get? b = some o → h'.get? b = some o) → tn i h'
  item : ∀ (X : Cx), X.prog = P → X.w = w → X.K = K → X.calm = true → ∀ (i : Nat) (pins : List (Addr × Obj)) (s : Shared) (σ : St) (H : Hp) (E : Value → Shared → Prop), Inv X pins σ H s → (∀ b ∈ fp, FpOk X pins H b) → tn i s.heap → J.go i H →
    wpAny (model P w) X.A (pyNext (.ref it)) (fun r s1 => ∃ u, r = some u ∧
      wpAny (model P w) X.A (letOwnedTupleGo tg (.ref it) u) (fun _ s2 => ∃ x H', Inv X pins σ H' s2 ∧ RelV x u ∧ J.yld i H x H' ∧ tn (i + 1) s2.heap ∧ ∀ b ∈ fp, H' b = none) E s1) E s
  done : ∀ (X : Cx), X.prog = P → X.w = w → X.K = K → X.calm = true → ∀ (i : Nat) (pins : List (Addr × Obj)) (s : Shared) (σ : St) (H : Hp) (E : Value → Shared → Prop), Inv X pins σ H s → (∀ b ∈ fp, FpOk X pins H b) → tn i s.heap → J.stop i H →
    wpAny (model P w) X.A (pyNext (.ref it)) (fun r s1 => r = none ∧ Inv X pins σ H s1) E s
  self : ∀ (A : Around) (i : Nat) (s : Shared) (Q : Value → Shared → Prop) (E : Value → Shared → Prop), tn i s.heap → Q (.ref it) s → wpAny (model P w) A (pyIter (.ref it)) Q E s
noncomputable abbrev TI := St → Hp → (It → Hp → Prop) → Prop
noncomputable def PIE (X : Cx) (pins : List (Addr × Obj)) (σ : St) (tg : Expr) (R : It → Hp → Prop) (itv : Value) (s2 : Shared) : Prop :=
  ∃ (it : Addr) (fp : List Addr) (tn : Nat → Heap → Prop) (J : It) (H' : Hp), itv = .ref it ∧ Inv X pins σ H' s2 ∧ Turn X.prog X.w X.K tg J fp it tn ∧ tn 0 s2.heap ∧ (∀ b ∈ fp, FpOk X pins H' b) ∧ R J H'
noncomputable def PI (X : Cx) (tg iter : Expr) (wi : TI) : Prop :=
  ∀ (pins : List (Addr × Obj)) (s : Shared) (σ : St) (H : Hp) (R : It → Hp → Prop), Inv X pins σ H s → wi σ H R →
    wpAny (model X.prog X.w) X.A (eval iter X.env) (fun v s1 => wpAny (model X.prog X.w) X.A (pyIter v) (PIE X pins σ tg R) X.xe s1) X.xe s

theorem go_of {M : Model} {A : Around} {E : Value → Shared → Prop} {s : Shared} {tg : Expr} {it : Addr} {u : Value} {o : Obj} {n : String} {vs : Array Value} {Q : Unit → Shared → Prop} (ho : s.heap.get? it = some o) (hc : o.cls = .type n) (hd : o.data = .fields vs)
    (hn : ["enumerate", "zip", "dict_itemiterator", "dict_reverseitemiterator", "odict_iterator", "itertools.zip_longest", "itertools.pairwise"].contains n = false) (hQ : Q () s) : wpAny M A (letOwnedTupleGo tg (.ref it) u) Q E s := by
  unfold letOwnedTupleGo
  cases tg <;> first
    | exact wpAny_pure hQ
    | (cases u <;> first
        | exact wpAny_pure hQ
        | (refine wpAny_bind (wpAny_load ho ?_)
           rw [hc, hd]
           show wpAny M A (if (["enumerate", "zip", "dict_itemiterator", "dict_reverseitemiterator", "odict_iterator", "itertools.zip_longest", "itertools.pairwise"].contains n && vs[0]? == some (rawInt _)) = true then _ else _) Q E s
           rw [if_neg (by intro h; rw [hn, Bool.false_and] at h; cases h)]
           exact wpAny_pure hQ))

noncomputable def Itl (K : PySem.W.Frag) (a : Addr) : It :=
  ⟨fun i H => ∃ xs x, SqL K H a xs ∧ xs[i]? = some x, fun i H x H' => H' = H ∧ ∀ xs, SqL K H a xs → xs[i]? = some x, fun i H => ∃ xs, SqL K H a xs ∧ xs.length ≤ i⟩
noncomputable def Itt (K : PySem.W.Frag) (a : Addr) : It :=
  ⟨fun i H => ∃ xs x, SqT K H a xs ∧ xs[i]? = some x, fun i H x H' => H' = H ∧ ∀ xs, SqT K H a xs → xs[i]? = some x, fun i H => ∃ xs, SqT K H a xs ∧ xs.length ≤ i⟩
noncomputable def Itr (lo : Int) (n : Nat) : It := ⟨fun i _ => i < n, fun i H x H' => H' = H ∧ x = .int (lo + i), fun i _ => n ≤ i⟩
theorem turn_list {P : Program} {w : World} {K : PySem.W.Frag} {tg : Expr} (a it : Addr) : Turn P w K tg (Itl K a) [it] it (fun i h => h.IsListIter it a i) where
  mem := by simp
  obj := fun i h st b hb => by
    have e : b = it := by simpa using hb
    subst e
    obtain ⟨o, e, c, d⟩ := st
    exact ⟨o, e, fun v z => by rw [d] at z; cases z⟩
  keep := fun i h h' st k => st.at fun o e => k it (by simp) o e
  item := by
    intro X hP hw hK hc i pins s σ H E I hf st hg
    subst hP hw hK
    obtain ⟨xs, x, hq, hx⟩ := hg
    obtain ⟨its, rv, p, hz⟩ := I.list hq
    obtain ⟨u, hu, ru⟩ := rv.get hx
    obtain ⟨f0, f1, f2, f3, f4, f5⟩ := hf it (by simp)
    refine wpAny_pyNext_list_item st p.isList (x := u) (by simpa using hu) fun h' st' sb => ?_
    have I1 : Inv X pins σ H { s with heap := h' } := I.turned (t' := s.toks) (fun b o hb e => (sb.2 b hb).trans e) f0 f1 f3 f4 f5
    obtain ⟨o, e, c, d⟩ := id st'
    exact ⟨u, rfl, go_of (s := { s with heap := h' }) e c d (by decide) ⟨x, H, I1, ru, ⟨rfl, fun ys hy => by rw [I.list_inj hy hq]; exact hx⟩, st', fun b hb => (hf b hb).1⟩⟩
  done := by
    intro X hP hw hK hc i pins s σ H E I hf st hg
    subst hP hw hK
    obtain ⟨xs, hq, hx⟩ := hg
    obtain ⟨its, rv, p, hz⟩ := I.list hq
    obtain ⟨f0, f1, f2, f3, f4, f5⟩ := hf it (by simp)
    have hl := rv.length
    exact wpAny_pyNext_list_end (I.ok.hd hc) st p.isList (by simp; omega) fun h' eb => ⟨rfl, I.turned (t' := s.toks) (fun b o hb e => eb b o hb e) f0 f1 f3 f4 f5⟩
  self := fun _ _ _ _ _ st h => wpAny_pyIter_listiter st h
theorem turn_tuple {P : Program} {w : World} {K : PySem.W.Frag} {tg : Expr} (a it : Addr) : Turn P w K tg (Itt K a) [it] it (fun i h => h.IsTupleIter it a i) where
  mem := by simp
  obj := fun i h st b hb => by
    have e : b = it := by simpa using hb
    subst e
    obtain ⟨o, e, c, d⟩ := st
    exact ⟨o, e, fun v z => by rw [d] at z; cases z⟩
  keep := fun i h h' st k => st.at fun o e => k it (by simp) o e
  item := by
    intro X hP hw hK hc i pins s σ H E I hf st hg
    subst hP hw hK
    obtain ⟨xs, x, hq, hx⟩ := hg
    obtain ⟨its, rv, p, hz⟩ := I.tuple hq
    obtain ⟨u, hu, ru⟩ := rv.get hx
    obtain ⟨f0, f1, f2, f3, f4, f5⟩ := hf it (by simp)
    refine wpAny_pyNext_tuple_item st (show s.heap.IsTuple a its.toArray from p) (x := u) (by simpa using hu) fun h' st' sb => ?_
    have I1 : Inv X pins σ H { s with heap := h' } := I.turned (t' := s.toks) (fun b o hb e => (sb.2 b hb).trans e) f0 f1 f3 f4 f5
    obtain ⟨o, e, c, d⟩ := id st'
    exact ⟨u, rfl, go_of (s := { s with heap := h' }) e c d (by decide) ⟨x, H, I1, ru, ⟨rfl, fun ys hy => by rw [I.tuple_inj hy hq]; exact hx⟩, st', fun b hb => (hf b hb).1⟩⟩
  done := by
    intro X hP hw hK hc i pins s σ H E I hf st hg
    subst hP hw hK
    obtain ⟨xs, hq, hx⟩ := hg
    obtain ⟨its, rv, p, hz⟩ := I.tuple hq
    obtain ⟨f0, f1, f2, f3, f4, f5⟩ := hf it (by simp)
    have hl := rv.length
    exact wpAny_pyNext_tuple_end (I.ok.hd hc) st (show s.heap.IsTuple a its.toArray from p) (by simp; omega) fun h' eb => ⟨rfl, I.turned (t' := s.toks) (fun b o hb e => eb b o hb e) f0 f1 f3 f4 f5⟩
  self := fun _ _ _ _ _ st h => wpAny_pyIter_tupleiter st h
theorem turn_range {P : Program} {w : World} {K : PySem.W.Frag} {tg : Expr} (it : Addr) (lo : Int) (n : Nat) : Turn P w K tg (Itr lo n) [it] it (fun i h => IsRangeIter h it (lo + (i : Nat) * 1) ((n : Int) - (i : Nat)) 1) where
  mem := by simp
  obj := fun i h st b hb => by
    have e : b = it := by simpa using hb
    subst e
    exact ⟨_, st, fun v z => by
      have z' : Data.fields _ = Data.cell v := z
      cases z'⟩
  keep := fun i h h' st k => k it (by simp) _ st
  item := by
    intro X hP hw hK hc i pins s σ H E I hf st hg
    subst hP hw hK
    obtain ⟨f0, f1, f2, f3, f4, f5⟩ := hf it (by simp)
    have W := Walks.range (prog := X.prog) (w := X.w) (I.ok.hd hc) it lo 1 n
    refine W.item i s _ _ hg st fun v h' tk hv st' kk => ?_
    obtain ⟨t, rfl⟩ := hv
    have I1 : Inv X pins σ H { s with heap := h', toks := tk } := I.turned (fun b o hb e => kk b o (by simpa using hb) e) f0 f1 f3 f4 f5
    refine ⟨_, rfl, go_of (s := { s with heap := h', toks := tk }) (n := "range_iterator") st' rfl rfl (by decide) ⟨.int (lo + i), H, I1, ⟨t, ?_⟩, ⟨rfl, rfl⟩, st', fun b hb => (hf b hb).1⟩⟩
    rw [Int.mul_one]
  done := by
    intro X hP hw hK hc i pins s σ H E I hf st hg
    subst hP hw hK
    obtain ⟨f0, f1, f2, f3, f4, f5⟩ := hf it (by simp)
    exact wpAny_pyNext_range_end (I.ok.hd hc) st (by have : n ≤ i := hg; omega) fun h' eb => ⟨rfl, I.turned (t' := s.toks) (fun b o hb e => eb b o hb e) f0 f1 f3 f4 f5⟩
  self := fun _ _ _ _ _ st h => wpAny_pyIter_rangeiter st h
end L2

namespace L2
open PySem PySem.Spec PyProof.Rows
section
variable {X : Cx} {tg : Expr}
noncomputable def iList (K : PySem.W.Frag) (tl : TE) : TI := fun σ H R => tl σ H fun x H1 => ∃ a, x = .ref a ∧ (∃ xs, SqL K H1 a xs) ∧ R (Itl K a) H1
noncomputable def iTup (K : PySem.W.Frag) (tl : TE) : TI := fun σ H R => tl σ H fun x H1 => ∃ a, x = .ref a ∧ (∃ xs, SqT K H1 a xs) ∧ R (Itt K a) H1
theorem pi_list {l : Expr} {tl : TE} (hl : PE X l tl) : PI X tg l (iList X.K tl) := by
  intro pins s σ H R I h
  refine thn (hl pins s σ H _ I h) ?_
  rintro v s1 ⟨x, H1, I1, r1, q1⟩
  obtain ⟨a, e, ⟨xs, hq⟩, q⟩ := q1
  subst e
  cases r1
  obtain ⟨its, rv, p, hz⟩ := I1.list hq
  refine wpAny_pyIter_list p.isList ?_
  refine ⟨s1.heap.objs.size, [s1.heap.objs.size], _, _, H1, rfl, I1.kept (t' := s1.toks) fun b o e => Heap.get?_push_of_some _ e, turn_list a _, ⟨_, Heap.get?_push_size _ rfl, rfl, rfl⟩, fun b hb => ?_, q⟩
  have e : b = s1.heap.objs.size := by simpa using hb
  subst e
  exact I1.fpOk (Nat.le_refl _) (I1.hok.fresh (Nat.le_refl _))
theorem pi_tup {l : Expr} {tl : TE} (hl : PE X l tl) : PI X tg l (iTup X.K tl) := by
  intro pins s σ H R I h
  refine thn (hl pins s σ H _ I h) ?_
  rintro v s1 ⟨x, H1, I1, r1, q1⟩
  obtain ⟨a, e, ⟨xs, hq⟩, q⟩ := q1
  subst e
  cases r1
  obtain ⟨its, rv, p, hz⟩ := I1.tuple hq
  refine wpAny_pyIter_tuple (show s1.heap.IsTuple a its.toArray from p) ?_
  refine ⟨s1.heap.objs.size, [s1.heap.objs.size], _, _, H1, rfl, I1.kept (t' := s1.toks) fun b o e => Heap.get?_push_of_some _ e, turn_tuple a _, ⟨_, Heap.get?_push_size _ rfl, rfl, rfl⟩, fun b hb => ?_, q⟩
  have e : b = s1.heap.objs.size := by simpa using hb
  subst e
  exact I1.fpOk (Nat.le_refl _) (I1.hok.fresh (Nat.le_refl _))
theorem range_it {pins : List (Addr × Obj)} {σ : St} {H : Hp} {s : Shared} {R : It → Hp → Prop} {E : Value → Shared → Prop} {lo hi : Int} {t u v : Tok} {tk : Nat} (I : Inv X pins σ H s) (h1 : -(2 ^ 62) ≤ lo) (h2 : lo < 2 ^ 62) (h3 : -(2 ^ 62) ≤ hi) (h4 : hi < 2 ^ 62)
    (q : R (Itr lo (hi - lo).toNat) H) : wpAny (model X.prog X.w) X.A (pyIter (.ref s.heap.objs.size)) (PIE X pins σ tg R) E { s with heap := s.heap.push { cls := .type "range", data := .fields #[.int lo t, .int hi u, .int 1 v] }, toks := tk } := by
  refine wpAny_pyIter_range (IsRange.new ..) (small_one h1 h2 h3 h4) ?_
  have I1 : Inv X pins σ H { s with heap := s.heap.push { cls := .type "range", data := .fields #[.int lo t, .int hi u, .int 1 v] }, toks := tk } := I.kept fun b o e => Heap.get?_push_of_some _ e
  refine ⟨(s.heap.push { cls := .type "range", data := .fields #[.int lo t, .int hi u, .int 1 v] }).objs.size, [(s.heap.push { cls := .type "range", data := .fields #[.int lo t, .int hi u, .int 1 v] }).objs.size], _, _, H, rfl,
    I1.kept (t' := tk) fun b o e => Heap.get?_push_of_some _ e, turn_range _ lo (hi - lo).toNat, ?_, fun b hb => ?_, q⟩
  · have e1 : lo + ((0 : Nat) : Int) * 1 = lo := by simp
    have e2 : (((hi - lo).toNat : Nat) : Int) - ((0 : Nat) : Int) = Builtin.Range.rangeSize lo hi 1 := by rw [rangeSize_one]; split <;> omega
    show IsRangeIter _ _ (lo + ((0 : Nat) : Int) * 1) ((((hi - lo).toNat : Nat) : Int) - ((0 : Nat) : Int)) 1
    rw [e1, e2]
    exact Heap.get?_push_size _ rfl
  · have e : b = (s.heap.push { cls := .type "range", data := .fields #[.int lo t, .int hi u, .int 1 v] }).objs.size := by simpa using hb
    subst e
    exact I1.fpOk (Nat.le_refl _) (I1.hok.fresh (Nat.le_refl _))
noncomputable def iRng1 (ta : TA) : TI := fun σ H R => ta σ H fun vs H1 => ∃ j : Int, vs = [.int j] ∧ -(2 ^ 62) ≤ j ∧ j < 2 ^ 62 ∧ R (Itr 0 j.toNat) H1
theorem pi_range1 {a : Expr} {ta : TA} {p pos : Pos} (hg : Gl X "range") (hm : X.mg "range" = none) (ha : PA X [a] ta) (hs : starEach [a] X.env = [(false, eval a X.env)] := by rfl) : PI X tg (.Call (.Name "range" p) [a] [] pos) (iRng1 ta) := by
  intro pins s σ H R I h
  refine Call_ (ld_blt I hg hm boot_range (PyProof.Rows.callWith_type1 (thn (ha pos pins s σ H _ I h) ?_) hs rfl))
  rintro us s1 ⟨vs, H1, I1, r1, q1⟩
  obtain ⟨j, e, q1, q2, q⟩ := q1
  subst e
  cases r1 with
  | cons r rr =>
    cases rr
    obtain ⟨t, rfl⟩ := r
    exact call_range_1 (range_it I1 (by omega) (by omega) q1 q2 (by simpa using q))

noncomputable def tFor (wi : TI) (g : TG) (tb : TS) : TS := fun D σ H => wi σ H fun J H1 => ∃ W : Nat → Nat → St → Hp → Prop, (∃ m, W 0 m σ H1) ∧ ∀ i m σ H, W i m σ H →
  (J.stop i H ∧ D.nx σ H) ∨ (J.go i H ∧ ∃ N : St → Hp → Prop, (∀ σ' H', N σ' H' → ∃ m', m' < m ∧ W (i + 1) m' σ' H') ∧ ∀ x H', J.yld i H x H' → g x σ H' fun σ2 H2 => tb { D with nx := N, ct := N, bk := D.nx } σ2 H2)
noncomputable def pinsAt (fp : List Addr) (h : Heap) : List (Addr × Obj) := fp.filterMap fun b => (h.get? b).map fun o => (b, o)
theorem mem_pinsAt {fp : List Addr} {h : Heap} {b : Addr} {o : Obj} (hb : b ∈ fp) (e : h.get? b = some o) : (b, o) ∈ pinsAt fp h := List.mem_filterMap.mpr ⟨b, hb, by rw [e]; rfl⟩
theorem of_pinsAt {fp : List Addr} {h : Heap} {p : Addr × Obj} (hp : p ∈ pinsAt fp h) : p.1 ∈ fp ∧ h.get? p.1 = some p.2 := by
  obtain ⟨b, hb, e⟩ := List.mem_filterMap.mp hp
  cases q : h.get? b with
  | none => rw [q] at e; cases e
  | some o =>
    rw [q] at e
    have e' : (b, o) = p := Option.some.inj e
    subst e'
    exact ⟨hb, q⟩
theorem Inv.pinned {pins : List (Addr × Obj)} {σ : St} {H : Hp} {s : Shared} {fp : List Addr} (I : Inv X pins σ H s) (hf : ∀ b ∈ fp, FpOk X pins H b) (ho : ∀ b ∈ fp, ∃ o, s.heap.get? b = some o ∧ ∀ v, o.data ≠ .cell v) : Inv X (pins ++ pinsAt fp s.heap) σ H s :=
  I.pins_of fun p hp => (List.mem_append.mp hp).elim (fun z => I.pin p (List.mem_append_right _ z)) fun z => by
    obtain ⟨hb, e⟩ := of_pinsAt z
    obtain ⟨f0, f1, f2, _⟩ := hf p.1 hb
    obtain ⟨o, e', d⟩ := ho p.1 hb
    rw [e] at e'; cases e'
    exact ⟨e, f0, f1, f2, d⟩
theorem Inv.unpinned {pins pl : List (Addr × Obj)} {σ : St} {H : Hp} {s : Shared} (I : Inv X (pins ++ pl) σ H s) : Inv X pins σ H s := I.pins_of fun p hp => I.pin p (List.mem_append_right _ (List.mem_append_left _ hp))
theorem ps_for {iter : Expr} {body : List Stmt} {wi : TI} {g : TG} {tb : TS} {pos : Pos} (hp : PassesOwn (model X.prog X.w) X.A X.env X.xe) (hc : X.calm = true) (hi : PI X tg iter wi) (hg : PG X tg g) (hb : PSs X body tb)
    (hs : ∀ x, foldedSetIterable iter X.env x = pure x := by intro _; rfl) : PS X (.For tg iter body [] pos) (tFor wi g tb) := by
  intro pins s σ H D I h
  refine wpAny_For (thn (hi pins s σ H _ I h) fun v s1 h1 => thn h1 fun itv s2 h2 => ?_) hs
  obtain ⟨it, fp, tn, J, H2, e, I2, T, st2, f2, W, ⟨m0, w0⟩, turn⟩ := h2
  subst e
  -- what stays true of the iterator's objects through the loop
  have stat : ∀ {H' : Hp}, (∀ b ∈ fp, H' b = none) → ∀ b ∈ fp, FpOk X pins H' b := fun hn b hb => ⟨hn b hb, (f2 b hb).2⟩
  refine codeAny_forLoop_any (fun n s' => ∃ i σ' H', Inv X pins σ' H' s' ∧ tn i s'.heap ∧ (∀ b ∈ fp, H' b = none) ∧ W i n σ' H') ?_ m0 ⟨0, σ, H2, I2, st2, fun b hb => (f2 b hb).1, w0⟩
  rintro n s3 ⟨i, σ3, H3, I3, st3, fr3, w3⟩
  rcases turn i n σ3 H3 w3 with ⟨stop, qn⟩ | ⟨go, N, hN, step⟩
  · refine wpAny_passesOwn hp (thn (T.done X rfl rfl rfl hc i pins s3 σ3 H3 X.xe I3 (stat fr3) st3 stop) ?_)
    rintro r s4 ⟨hr, I4⟩
    subst hr
    exact wpAny_execs_nil ⟨σ3, H3, I4, qn⟩
  · refine wpAny_passesOwn hp (thn (T.item X rfl rfl rfl hc i pins s3 σ3 H3 X.xe I3 (stat fr3) st3 go) ?_)
    rintro r s4 ⟨u, hr, h4⟩
    subst hr
    refine wpAny_passesOwn hp (thn h4 ?_)
    rintro _ s5 ⟨x, H5, I5, r5, y5, st5, fr5⟩
    have I5' := I5.pinned (stat fr5) (T.obj _ _ st5)
    refine wpAny_passesOwn hp (thn (hg _ s5 σ3 H5 x u _ I5' r5 (step x H5 y5)) ?_)
    rintro _ s6 ⟨σ6, H6, I6, q6⟩
    refine wpAny_passesOwn hp (thn (hb _ s6 σ6 H6 _ I6 q6) fun f s7 q7 => ?_)
    have again : ∀ {σ7 : St} {H7 : Hp}, Inv X (pins ++ pinsAt fp s5.heap) σ7 H7 s7 → N σ7 H7 → ∃ m, m < n ∧ ∃ i σ' H', Inv X pins σ' H' s7 ∧ tn i s7.heap ∧ (∀ b ∈ fp, H' b = none) ∧ W i m σ' H' := fun {σ7 H7} I7 n7 => by
      obtain ⟨m', hm, w7⟩ := hN σ7 H7 n7
      refine ⟨m', hm, i + 1, σ7, H7, I7.unpinned, T.keep _ _ _ st5 fun b hb o e => (I7.pin (b, o) (List.mem_append_right _ (List.mem_append_right _ (mem_pinsAt hb e)))).1, fun b hb => ?_, w7⟩
      obtain ⟨o, e, d⟩ := T.obj _ _ st5 b hb
      exact (I7.pin (b, o) (List.mem_append_right _ (List.mem_append_right _ (mem_pinsAt hb e)))).2.1
    cases f with
    | next => obtain ⟨σ7, H7, I7, n7⟩ := q7; exact again I7 n7
    | cont => obtain ⟨σ7, H7, I7, n7⟩ := q7; exact again I7 n7
    | brk => obtain ⟨σ7, H7, I7, q7⟩ := q7; exact ⟨σ7, H7, I7.unpinned, q7⟩
    | ret v => obtain ⟨x7, σ7, H7, I7, r7, q7⟩ := q7; exact ⟨x7, σ7, H7, I7.unpinned, r7, q7⟩
end

end L2

namespace L2
open PySem PySem.Spec PyProof.Rows

noncomputable abbrev R2 := V → V → Hp → VK → Prop
noncomputable def OpR (X : Cx) (f : Value → Value → Sem Value) (r : R2) : Prop :=
  ∀ (pins : List (Addr × Obj)) (s : Shared) (σ : St) (H : Hp) (x y : V) (v u : Value) (Q : VK), Inv X pins σ H s → RelV x v → RelV y u → r x y H Q →
    wpAny (model X.prog X.w) X.A (f v u) (EP X pins σ Q) X.xe s
noncomputable def CallR (X : Cx) (f : Value) (r : List V → Hp → VK → Prop) : Prop :=
  ∀ (pins : List (Addr × Obj)) (s : Shared) (σ : St) (H : Hp) (xs : List V) (us : List Value) (Q : VK), Inv X pins σ H s → Vals xs us → r xs H Q →
    wpAny (model X.prog X.w) X.A (call f us) (EP X pins σ Q) X.xe s
noncomputable def TruR (X : Cx) (r : V → Hp → (Bool → Hp → Prop) → Prop) : Prop :=
  ∀ (pins : List (Addr × Obj)) (s : Shared) (σ : St) (H : Hp) (x : V) (v : Value) (Q : Bool → Hp → Prop), Inv X pins σ H s → RelV x v → r x H Q →
    wpAny (model X.prog X.w) X.A (truthy v) (TP X pins σ Q) X.xe s

noncomputable def tOp (r : R2) (ta tb : TE) : TE := fun σ H Q => ta σ H fun x H1 => tb σ H1 fun y H2 => r x y H2 Q
noncomputable def rI (C : Int → Int → Prop) (g : Int → Int → V) : R2 := fun x y H Q => ∃ i j, x = .int i ∧ y = .int j ∧ C i j ∧ Q (g i j) H
noncomputable def rI0 (g : Int → Int → V) : R2 := fun x y H Q => ∃ i j, x = .int i ∧ y = .int j ∧ Q (g i j) H

section
variable {X : Cx} {a b c : Expr} {ta tb tc : TE} {pos : Pos}

theorem binT (ha : PE X a ta) (hb : PE X b tb) {pins : List (Addr × Obj)} {s : Shared} {σ : St} {H : Hp} {R : V → V → Hp → Prop} (I : Inv X pins σ H s)
    (h : ta σ H fun x H1 => tb σ H1 fun y H2 => R x y H2) {Q : Value → Shared → Prop} {f : Value → Value → Sem Value}
    (hf : ∀ v u s2 x y H2, Inv X pins σ H2 s2 → RelV x v → RelV y u → R x y H2 → wpAny (model X.prog X.w) X.A (f v u) Q X.xe s2) :
    wpAny (model X.prog X.w) X.A (eval a X.env) (fun v s₁ => wpAny (model X.prog X.w) X.A (eval b X.env) (fun u s₂ => wpAny (model X.prog X.w) X.A (f v u) Q X.xe s₂) X.xe s₁) X.xe s := by
  refine thn (ha pins s σ H _ I h) ?_
  rintro v s1 ⟨x, H1, I1, r1, q1⟩
  refine thn (hb pins s1 σ H1 _ I1 q1) ?_
  rintro u s2 ⟨y, H2, I2, r2, q2⟩
  exact hf v u s2 x y H2 I2 r1 r2 q2

theorem pe_op {op : Operator} {r : R2} (ho : OpR X (binaryOp op) r) (ha : PE X a ta) (hb : PE X b tb) : PE X (.BinOp a op b pos) (tOp r ta tb) := by
  intro pins s σ H Q I h
  exact wpAny_BinOp (binT ha hb I h fun v u s2 x y H2 I2 rx ry q => ho pins s2 σ H2 x y v u Q I2 rx ry q)

theorem opI {f : Value → Value → Sem Value} {C : Int → Int → Prop} {g : Int → Int → Int}
    (rule : ∀ (i j : Int) (t u : Tok) (s : Shared) (Q : Value → Shared → Prop) (E : Value → Shared → Prop), C i j → Q (.int (g i j) s.toks) { s with toks := s.toks + 1 } → wpAny (model X.prog X.w) X.A (f (.int i t) (.int j u)) Q E s) :
    OpR X f (rI C fun i j => .int (g i j)) := by
  intro pins s σ H x y v u Q I rx ry h
  obtain ⟨i, j, rfl, rfl, hc, q⟩ := h
  obtain ⟨t, rfl⟩ := rx
  obtain ⟨t', rfl⟩ := ry
  exact rule i j t t' s _ _ hc ⟨.int (g i j), H, I.tok _, ⟨_, rfl⟩, q⟩
theorem opI0 {f : Value → Value → Sem Value} {g : Int → Int → Int}
    (rule : ∀ (i j : Int) (t u : Tok) (s : Shared) (Q : Value → Shared → Prop) (E : Value → Shared → Prop), Q (.int (g i j) s.toks) { s with toks := s.toks + 1 } → wpAny (model X.prog X.w) X.A (f (.int i t) (.int j u)) Q E s) :
    OpR X f (rI0 fun i j => .int (g i j)) := by
  intro pins s σ H x y v u Q I rx ry h
  obtain ⟨i, j, rfl, rfl, q⟩ := h
  obtain ⟨t, rfl⟩ := rx
  obtain ⟨t', rfl⟩ := ry
  exact rule i j t t' s _ _ ⟨.int (g i j), H, I.tok _, ⟨_, rfl⟩, q⟩
theorem opB0 {f : Value → Value → Sem Value} {g : Int → Int → Bool}
    (rule : ∀ (i j : Int) (t u : Tok) (s : Shared) (Q : Value → Shared → Prop) (E : Value → Shared → Prop), Q (.bool (g i j)) s → wpAny (model X.prog X.w) X.A (f (.int i t) (.int j u)) Q E s) :
    OpR X f (rI0 fun i j => .bl (g i j)) := by
  intro pins s σ H x y v u Q I rx ry h
  obtain ⟨i, j, rfl, rfl, q⟩ := h
  obtain ⟨t, rfl⟩ := rx
  obtain ⟨t', rfl⟩ := ry
  exact rule i j t t' s _ _ ⟨.bl (g i j), H, I, rfl, q⟩

noncomputable def CDiv (i j : Int) : Prop := 0 < j ∧ j < 1073741824
noncomputable def CMul (i j : Int) : Prop := (-(2 ^ 64) < i ∧ i < 2 ^ 64) ∨ (-(2 ^ 64) < j ∧ j < 2 ^ 64)
theorem CMul.ok {i j : Int} (h : CMul i j) : IntMulOk i j := by
  rcases h with ⟨h1, h2⟩ | ⟨h1, h2⟩
  · exact .of_left (intBits_le_64 h1 h2)
  · exact .of_right (intBits_le_64 h1 h2)

theorem op_add : OpR X (binaryOp .Add) (rI0 fun i j => .int (i + j)) := opI0 fun _ _ _ _ _ _ _ q => add_int q
theorem op_sub : OpR X (binaryOp .Sub) (rI0 fun i j => .int (i - j)) := opI0 fun _ _ _ _ _ _ _ q => sub_int q
theorem op_mul : OpR X (binaryOp .Mult) (rI CMul fun i j => .int (i * j)) := opI fun _ _ _ _ _ _ _ hc q => mul_int q hc.ok
theorem op_fdiv : OpR X (binaryOp .FloorDiv) (rI CDiv fun i j => .int (i / j)) := opI fun i j _ _ _ _ _ hc q => by
  have h1 : (0 : Int) < j := hc.1
  have h2 : j < 1073741824 := hc.2
  exact floordiv_int (by omega) (by rw [Int.fdiv_eq_ediv_of_nonneg i (by omega)]; exact q) (.inl (PyProof.noPylong_small (by omega)))
theorem op_mod : OpR X (binaryOp .Mod) (rI (fun _ j => 0 < j) fun i j => .int (i % j)) := opI fun i j _ _ _ _ _ hc q => by
  have h1 : (0 : Int) < j := hc
  exact mod_int' (by omega) (by rw [Int.fmod_eq_emod_of_nonneg i (by omega)]; exact q)

end

section
variable {X : Cx} {a b c : Expr} {ta tb tc : TE} {pos : Pos}
theorem fin_bl {pins : List (Addr × Obj)} {σ : St} {H : Hp} {s : Shared} {Q : VK} {k k' : Bool} (I : Inv X pins σ H s) (q : Q (.bl k) H) (e : k = k') : EP X pins σ Q (.bool k') s := by
  subst e
  exact ⟨.bl k, H, I, rfl, q⟩

theorem op_lt : OpR X (compareOp .Lt) (rI0 fun i j => .bl (decide (i < j))) := opB0 fun _ _ _ _ _ _ _ q => lt_int q
theorem op_le : OpR X (compareOp .LtE) (rI0 fun i j => .bl (decide (i ≤ j))) := opB0 fun _ _ _ _ _ _ _ q => le_int q
theorem op_gt : OpR X (compareOp .Gt) (rI0 fun i j => .bl (decide (j < i))) := opB0 fun _ _ _ _ _ _ _ q => gt_int q

theorem OpR.or {f : Value → Value → Sem Value} {r r' : R2} (h : OpR X f r) (h' : OpR X f r') : OpR X f (fun x y H Q => r x y H Q ∨ r' x y H Q) := by
  intro pins s σ H x y v u Q I rx ry q
  rcases q with q | q
  · exact h pins s σ H x y v u Q I rx ry q
  · exact h' pins s σ H x y v u Q I rx ry q

theorem nomark (b : Expr) {op : CmpOp} (h : op ≠ .In := by decide) (h2 : op ≠ .NotIn := by decide) : behindInMarks op b = false := by
  have e1 : (op == CmpOp.In) = false := by cases op <;> first | rfl | exact absurd rfl h
  have e2 : (op == CmpOp.NotIn) = false := by cases op <;> first | rfl | exact absurd rfl h2
  cases b <;> simp [behindInMarks, e1, e2]
theorem pe_cmpR {op : CmpOp} {r : R2} (ho : OpR X (compareOp op) r) (ha : PE X a ta) (hb : PE X b tb) (hm : behindInMarks op b = false) : PE X (.Compare a [op] [b] pos) (tOp r ta tb) := by
  intro pins s σ H Q I h
  exact wpAny_Compare1 (binT ha hb I h fun v u s2 x y H2 I2 rx ry q => ho pins s2 σ H2 x y v u Q I2 rx ry q) hm
noncomputable def tTest (t : TE) : TT := fun σ H Q => t σ H fun x H' => ∃ k, x = .bl k ∧ Q k H'
theorem pt_cmpR {op : CmpOp} {r : R2} (ho : OpR X (compareOp op) r) (ha : PE X a ta) (hb : PE X b tb) (hm : behindInMarks op b = false) : PT X (.Compare a [op] [b] pos) (tTest (tOp r ta tb)) := by
  intro pins s σ H Q I h
  refine wpAny_isTrue_Compare1 (thn (ha pins s σ H _ I h) fun v s1 ⟨x, H1, I1, r1, q1⟩ => thn (hb pins s1 σ H1 _ I1 q1) fun u s2 ⟨y, H2, I2, r2, q2⟩ =>
    thn (ho pins s2 σ H2 x y v u _ I2 r1 r2 q2) fun c s3 ⟨z, H3, I3, r3, k, e, q3⟩ => ?_) hm
  subst e
  cases r3
  exact wpAny_truthy_bool ⟨H3, I3, q3⟩
noncomputable def tChain (r r' : R2) (ta tb tc : TE) : TE := fun σ H Q => ta σ H fun x H1 => tb σ H1 fun y H2 => r x y H2 fun z H3 => ∃ k, z = .bl k ∧
  (if k = true then tc σ H3 fun w' H4 => r' y w' H4 Q else Q (.bl false) H3)
theorem pe_chain {op op' : CmpOp} {r r' : R2} (ho : OpR X (compareOp op) r) (ho' : OpR X (compareOp op') r') (ha : PE X a ta) (hb : PE X b tb) (hc : PE X c tc)
    (hm : lastMarks [op, op'] [b, c] = false := by with_unfolding_all rfl) : PE X (.Compare a [op, op'] [b, c] pos) (tChain r r' ta tb tc) := by
  intro pins s σ H Q I h
  refine Compare_chain (thn (ha pins s σ H _ I h) fun v s1 ⟨x, H1, I1, r1, q1⟩ => chain_link (thn (hb pins s1 σ H1 _ I1 q1) fun u s2 ⟨y, H2, I2, r2, q2⟩ =>
    thn (ho pins s2 σ H2 x y v u _ I2 r1 r2 q2) fun d s3 ⟨z, H3, I3, r3, k, e, q3⟩ => ?_)) hm
  subst e
  cases r3
  refine wpAny_truthy_bool ?_
  cases k with
  | false => exact ite_ff ⟨.bl false, H3, I3, rfl, q3⟩
  | true => exact ite_tt (chain_last (thn (hc pins s3 σ H3 _ I3 q3) fun w' s4 ⟨z', H4, I4, r4, q4⟩ => ho' pins s4 σ H4 y z' u w' Q I4 r2 r4 q4))

noncomputable def TruV (K : PySem.W.Frag) (x : V) (H : Hp) (k : Bool) : Prop :=
  match x with
  | .non => k = false
  | .bl b => k = b
  | .int i => k = (i != 0)
  | .str y => y.length ≤ sizeLine ∧ k = ((y.length : Int) != 0)
  | .byt y => y.size ≤ sizeLine ∧ k = ((y.size : Int) != 0)
  | .ref p => (∃ xs, SqL K H p xs ∧ k = !xs.isEmpty) ∨ (∃ xs, SqT K H p xs ∧ k = !xs.isEmpty) ∨ ∃ kvs, H p = some (.dK kvs) ∧ k = !kvs.isEmpty
  | _ => False
theorem isEmpty_kv {κ : Type} {kvs : List (κ × V)} {vs : List (κ × Value)} (r : KV kvs vs) : (!vs.isEmpty) = !kvs.isEmpty := by
  cases r <;> rfl
theorem isEmpty_of {xs : List V} {its : List Value} (r : Vals xs its) : (!its.toArray.isEmpty) = !xs.isEmpty := by
  cases r <;> simp
theorem line63 : (sizeLine : Nat) < 2 ^ 63 := by rw [sizeLine_eq]; decide
theorem tru_ok : TruR X (fun x H Q => ∃ k, TruV X.K x H k ∧ Q k H) := by
  intro pins s σ H x v Q I rx h
  obtain ⟨k, e, q⟩ := h
  have hl := line63
  have hs : sizeLine = 16777216 := sizeLine_eq
  cases x with
  | non =>
    cases rx
    have e' : k = false := e
    subst e'
    exact truthy_none ⟨H, I, q⟩
  | bl b =>
    cases rx
    have e' : k = b := e
    subst e'
    exact wpAny_truthy_bool ⟨H, I, q⟩
  | int i =>
    obtain ⟨t, rfl⟩ := rx
    have e' : k = (i != 0) := e
    subst e'
    exact PySem.P.truthy_int ⟨H, I, q⟩
  | str y =>
    obtain ⟨t, rfl⟩ := rx
    obtain ⟨hy, e'⟩ : y.length ≤ sizeLine ∧ k = ((y.length : Int) != 0) := e
    subst e'
    exact PySem.P.truthy_str (by omega) ⟨H, I.tok _, q⟩
  | byt y =>
    obtain ⟨t, rfl⟩ := rx
    obtain ⟨hy, e'⟩ : y.size ≤ sizeLine ∧ k = ((y.size : Int) != 0) := e
    subst e'
    exact PySem.W.truthy_bytes (by omega) ⟨H, I.tok _, q⟩
  | ref p =>
    cases rx
    have e' : (∃ xs, SqL X.K H p xs ∧ k = !xs.isEmpty) ∨ (∃ xs, SqT X.K H p xs ∧ k = !xs.isEmpty) ∨ ∃ kvs, H p = some (.dK kvs) ∧ k = !kvs.isEmpty := e
    rcases e' with ⟨xs, hx, e'⟩ | ⟨xs, hx, e'⟩ | ⟨kvs, hx, e'⟩
    · subst e'
      obtain ⟨its, r, pl, hz⟩ := I.list hx
      have hlen := r.length
      exact wpAny_truthy_list pl.isList (by simp only [List.size_toArray]; omega) ⟨H, I.tok _, by rw [isEmpty_of r]; exact q⟩
    · subst e'
      obtain ⟨its, r, pl, hz⟩ := I.tuple hx
      have hlen := r.length
      exact truthy_tuple pl (by simp only [List.size_toArray]; omega) ⟨H, I.tok _, by rw [isEmpty_of r]; exact q⟩
    · subst e'
      obtain ⟨hz, hS, vs, r, m⟩ : kvs.length ≤ sizeLine ∧ (p == sysModules) = false ∧ ∃ vs, KV kvs vs ∧ s.heap.DictOf (mixKind X.prog X.w) p vs := I.hok p _ hx
      have hlen : kvs.length = vs.length := Paired.length r
      exact wpAny_truthy_dict hS m (by omega) ⟨H, I.tok _, by rw [isEmpty_kv r]; exact q⟩
  | _ => exact (show False from e).elim

theorem op_add_str : OpR X (binaryOp .Add) (fun x y H Q => ∃ i j, x = .str i ∧ y = .str j ∧ i.length + j.length ≤ sizeLine ∧ Q (.str (i ++ j)) H) := by
  intro pins s σ H x y v u Q I rx ry h
  obtain ⟨i, j, rfl, rfl, hz, q⟩ := h
  obtain ⟨t, rfl⟩ := rx
  obtain ⟨t', rfl⟩ := ry
  exact add_str (fun t' tk => ⟨.str (i ++ j), H, I.tok _, ⟨_, rfl⟩, q⟩) hz

theorem vals1 {x : V} {us : List Value} (r : Vals [x] us) : ∃ u, us = [u] ∧ RelV x u := by
  cases r with
  | cons r1 r2 => cases r2; exact ⟨_, rfl, r1⟩
theorem vals2 {x y : V} {us : List Value} (r : Vals [x, y] us) : ∃ u w', us = [u, w'] ∧ RelV x u ∧ RelV y w' := by
  cases r with
  | cons r1 r2 =>
    cases r2 with
    | cons r3 r4 => cases r4; exact ⟨_, _, rfl, r1, r3⟩
noncomputable def LenV (K : PySem.W.Frag) (x : V) (H : Hp) (n : Nat) : Prop :=
  match x with
  | .str y => y.length ≤ sizeLine ∧ n = y.length
  | .byt y => y.size ≤ sizeLine ∧ n = y.size
  | .ref p => (∃ xs, SqL K H p xs ∧ n = xs.length) ∨ ∃ xs, SqT K H p xs ∧ n = xs.length
  | _ => False
theorem call_len : CallR X (.builtin "len") (fun xs H Q => ∃ x n, xs = [x] ∧ LenV X.K x H n ∧ Q (.int n) H) := by
  intro pins s σ H xs us Q I r h
  obtain ⟨x, n, rfl, e, q⟩ := h
  obtain ⟨u, rfl, rx⟩ := vals1 r
  have hl := line63
  have hs : sizeLine = 16777216 := sizeLine_eq
  cases x with
  | str y =>
    obtain ⟨t, rfl⟩ := rx
    obtain ⟨hy, e'⟩ : y.length ≤ sizeLine ∧ n = y.length := e
    subst e'
    exact len_str (by omega) ⟨.int _, H, I.tok _, ⟨_, rfl⟩, q⟩
  | byt y =>
    obtain ⟨t, rfl⟩ := rx
    obtain ⟨hy, e'⟩ : y.size ≤ sizeLine ∧ n = y.size := e
    subst e'
    exact PySem.W.len_bytes (by omega) ⟨.int _, H, I.tok _, ⟨_, rfl⟩, q⟩
  | ref p =>
    cases rx
    have e' : (∃ xs, SqL X.K H p xs ∧ n = xs.length) ∨ ∃ xs, SqT X.K H p xs ∧ n = xs.length := e
    rcases e' with ⟨xs, hx, e'⟩ | ⟨xs, hx, e'⟩
    · subst e'
      obtain ⟨its, r', pl, hz⟩ := I.list hx
      have hlen := r'.length
      exact Calls.call_len_list pl.isList (by simp only [List.size_toArray]; omega) ⟨.int xs.length, H, I.tok _, ⟨_, by simp only [List.size_toArray]; rw [hlen]⟩, q⟩
    · subst e'
      obtain ⟨its, r', pl, hz⟩ := I.tuple hx
      have hlen := r'.length
      exact len_tuple pl (by simp only [List.size_toArray]; omega) ⟨.int xs.length, H, I.tok _, ⟨_, by simp only [List.size_toArray]; rw [hlen]⟩, q⟩
  | _ => exact (show False from e).elim
end
end L2

namespace L2
open PySem PySem.Spec PyProof.Rows

structure ObjM (h : Heap) (x dx C : Addr) (mA : Str → Option Value) : Prop where
  obj : h.get? x = some (PySem.W.instObj C dx)
  ns : h.Ns1 dx mA
  ne : dx ≠ x

theorem lookIn_ns {h : Heap} {dx : Addr} {mA : Str → Option Value} (n : h.Ns1 dx mA) : ∃ od, h.get? dx = some od ∧ ∀ name, PySem.W.lookIn name od = some (mA name) := by
  obtain ⟨o, es, ep, ho, hd, hk, _, hm⟩ := n
  refine ⟨o, ho, fun name => ?_⟩
  have e := hm name
  unfold nsFind findBy at e
  rw [← Array.find?_toList] at e
  unfold PySem.W.lookIn
  rw [hd]
  dsimp only
  split
  · rename_i y q
    rw [q] at e
    exact congrArg some e
  · rename_i q
    rw [q] at e
    have a : es.toList.any (·.refKey) = false := by
      rw [List.any_eq_false]
      intro y hy
      obtain ⟨z, t, hkey⟩ := hk y (Array.mem_toList_iff.mp hy)
      simp [DictEntry.refKey, hkey]
    have a' : ¬ es.toList.any (·.refKey) = true := by rw [a]; exact Bool.false_ne_true
    rw [if_neg a']
    exact congrArg some e

theorem ObjM.look {h : Heap} {x dx C : Addr} {mA : Str → Option Value} (I : ObjM h x dx C mA) : ∃ od, PySem.W.InstAt h x (PySem.W.instObj C dx) C (some od) ∧ ∀ name, PySem.W.lookIn name od = some (mA name) :=
  let ⟨od, ho, hl⟩ := lookIn_ns I.ns
  ⟨od, ⟨I.obj, rfl, rfl, ho⟩, hl⟩

section
variable {prog : Program} {w : World} {A : Around} {E : Value → Shared → Prop} {s : Shared} {K : PySem.W.Frag} {x dx C f : Addr} {mA : Str → Option Value} {name : Str} {v : Value}

end

noncomputable def putF (f : Str) (v : V) : List (Str × V) → List (Str × V)
  | [] => [(f, v)]
  | (g, x) :: r => if g = f then (g, v) :: r else (g, x) :: putF f v r

theorem RelO.some_of {v : V} {o : Option Value} (r : RelO (some v) o) : ∃ u, o = some u ∧ RelV v u := by
  cases o with
  | none => exact (show False from r).elim
  | some u => exact ⟨u, rfl, r⟩

section
variable {P : Program} {w : World} {H H' : Hp} {h h' : Heap} {a C dx : Addr} {fs fs' : List (Str × V)}
theorem ins_get (hok : HOk P w H h) (e : H a = some (.ins C dx fs)) : ∃ mA, ObjM h a dx C mA ∧ (∀ f, RelO (fs.lookup f) (mA f)) ∧ PySem.Within mA (fs.map (·.1)) ∧ fs.length ≤ 1000 ∧ H dx = some (.own a) := by
  obtain ⟨d, z, ne, ob, mA, n, r, q⟩ := (show ObjOk P w H h a (.ins C dx fs) from hok a _ e)
  exact ⟨mA, ⟨ob, n, ne⟩, r, q, z, d⟩
end

structure Cls (K : PySem.W.Frag) (C : Addr) : Prop where
  pg : PySem.W.plainGet K C Str.empty = true
  hd : PySem.W.hasDictIn K C = true
  po : PySem.W.plainOver K C = true
  sa : PySem.W.findIn K (.ref C) "__setattr__" = some (some (.builtin "object.__setattr__"))
theorem Cls.get {K : PySem.W.Frag} {C : Addr} (c : Cls K C) (f : Str) : PySem.W.plainGet K C f = true := c.pg
structure Con (K : PySem.W.Frag) (C : Addr) (f : Str) (v : V) (u : Value) : Prop where
  at_ : PySem.W.findIn K (.ref C) f = some (some u)
  rel : RelV v u
  get : PySem.W.specialIn K u "__get__" = some none
  cp : PySem.W.copiedNames.contains f = false
structure Meth (K : PySem.W.Frag) (C : Addr) (m : Str) (f : Addr) : Prop where
  at_ : PySem.W.findIn K (.ref C) m = some (some (.ref f))
  fn : PySem.W.isFn K (.ref f) = true
  kp : PySem.W.keepIn K (.ref f) = true

section
variable {X : Cx} {pins : List (Addr × Obj)} {σ : St} {H : Hp} {s : Shared} {a C dx : Addr} {fs : List (Str × V)} {f : Str} {v : V} {A : Around} {E : Value → Shared → Prop}

end

section
variable {X : Cx} {o e value : Expr} {f : Str} {pos pos' tpos : Pos} {ta tv : TE}

end

section
variable {X : Cx} {pins : List (Addr × Obj)} {σ : St} {H : Hp} {s : Shared} {A : Around} {E : Value → Shared → Prop} {Q : Value → Shared → Prop} {c : Value} {b : Bool}
inductive TyOf (K : PySem.W.Frag) (H : Hp) : V → Value → Prop where
  | non : TyOf K H .non (.type "NoneType")
  | bl (x : Bool) : TyOf K H (.bl x) (.type "bool")
  | int (i : Int) : TyOf K H (.int i) (.type "int")
  | str (x : Str) : TyOf K H (.str x) (.type "str")
  | flt (x : UInt64) : TyOf K H (.flt x) (.type "float")
  | lst {a : Addr} {xs : List V} (e : H a = some (.lst xs)) : TyOf K H (.ref a) (.type "list")
  | frz {a : Addr} {o : Obj} {xs : List V} (e : H a = some (.frz o (.lst xs))) : TyOf K H (.ref a) (.type "list")
  | tup {a : Addr} {xs : List V} (e : H a = some (.tup xs)) : TyOf K H (.ref a) (.type "tuple")
  | dK {a : Addr} {kvs : List (Key × V)} (e : H a = some (.dK kvs)) : TyOf K H (.ref a) (.type "dict")
  | dT {a : Addr} {kvs : List (List Key × V)} (e : H a = some (.dT kvs)) : TyOf K H (.ref a) (.type "dict")
  | ins {a C dx : Addr} {fs : List (Str × V)} (e : H a = some (.ins C dx fs)) (cl : Cls K C) (ha : PySem.W.findIn K (.ref C) "__class__" = some (some (.builtin "object.__class__")))
      (hn : PySem.W.specialIn K (.builtin "object.__class__") "__get__" = some (some (.builtin "getset_descriptor.__get__"))) (htk : PySem.W.takesIn K (.builtin "object.__class__") = some true)
      (hm : PySem.W.mroIn K C (.type "object") = some true) : TyOf K H (.ref a) (.ref C)
theorem isinst_ok {x : V} {u t : Value} (I : Inv X pins σ H s) (rx : RelV x u) (ty : TyOf X.K H x t) (e : PySem.W.kitOne X.K t c = some b) (h : ∀ tk, Q (.bool b) { s with toks := tk }) :
    wpAny (model X.prog X.w) A (call (.builtin "isinstance") [u, c]) Q E s := by
  cases ty with
  | non => cases (show u = Value.none from rx); exact PySem.W.kia_one PySem.W.kitx_none I.kIn True.intro e (fun z => nomatch z) h
  | bl y => cases (show u = Value.bool y from rx); exact PySem.W.kia_one PySem.W.kitx_bool I.kIn True.intro e (fun z => nomatch z) h
  | int i => obtain ⟨t, q⟩ := (show ∃ t, u = Value.int i t from rx); cases q; exact PySem.W.kia_one PySem.W.kitx_int I.kIn True.intro e (fun z => nomatch z) h
  | str y => obtain ⟨t, q⟩ := (show ∃ t, u = Value.str y t from rx); cases q; exact PySem.W.kia_one PySem.W.kitx_str I.kIn True.intro e (fun z => nomatch z) h
  | flt y => obtain ⟨t, q⟩ := (show ∃ t, u = Value.float y t from rx); cases q; exact PySem.W.kia_one PySem.W.kitx_float I.kIn True.intro e (fun z => nomatch z) h
  | @lst a xs ea =>
    cases (show u = Value.ref a from rx)
    obtain ⟨_, _, n, _, h1⟩ := (show ObjOk X.prog X.w H s.heap a (.lst xs) from I.hok a _ ea)
    exact PySem.W.kia_one PySem.W.kitx_list I.kIn ⟨_, h1, rfl⟩ e (fun z => nomatch z) h
  | @frz a ob xs ea =>
    cases (show u = Value.ref a from rx)
    obtain ⟨_, _, _, n, _, h1⟩ := (show ObjOk X.prog X.w H s.heap a (.frz ob (.lst xs)) from I.hok a _ ea)
    exact PySem.W.kia_one PySem.W.kitx_list I.kIn ⟨_, h1, rfl⟩ e (fun z => nomatch z) h
  | @tup a xs ea =>
    cases (show u = Value.ref a from rx)
    obtain ⟨_, _, _, p⟩ := (show ObjOk X.prog X.w H s.heap a (.tup xs) from I.hok a _ ea)
    obtain ⟨o, h1, h2, _⟩ := p
    exact PySem.W.kia_one PySem.W.kitx_tuple I.kIn ⟨o, h1, h2⟩ e (fun z => nomatch z) h
  | @dK a kvs ea =>
    cases (show u = Value.ref a from rx)
    obtain ⟨_, _, vs, _, p⟩ := (show ObjOk X.prog X.w H s.heap a (.dK kvs) from I.hok a _ ea)
    obtain ⟨o, es, ep, h1, h2, _⟩ := p
    exact PySem.W.kia_one PySem.W.kitx_dict I.kIn ⟨o, h1, h2.1⟩ e (fun z => nomatch z) h
  | @dT a kvs ea =>
    cases (show u = Value.ref a from rx)
    obtain ⟨_, _, xs, _, o, es, ep, h1, h2, _⟩ := (show ObjOk X.prog X.w H s.heap a (.dT kvs) from I.hok a _ ea)
    exact PySem.W.kia_one PySem.W.kitx_dict I.kIn ⟨o, h1, h2.1⟩ e (fun z => nomatch z) h
  | @ins a C dx fs ea cl ha hn htk hm =>
    cases (show u = Value.ref a from rx)
    obtain ⟨mA, O, _⟩ := ins_get I.hok ea
    obtain ⟨od, J, _⟩ := O.look
    exact PySem.W.kia_one (PySem.W.kitx_own (cl.get _) cl.hd ha hn htk hm) I.kIn J e (fun z => nomatch z) h
end
end L2

namespace L2
open PySem PySem.Spec PyProof.Rows

structure Room (k : Nat) (A : Around) : Prop where
  hd : A.handled = none
  dp : A.depth + 3 * k + 5 < recursionLimit
  un : A.units + 16 * k + 200 < cLine
theorem Room.mono {j k : Nat} {A : Around} (r : Room k A) (h : j ≤ k) : Room j A := ⟨r.hd, by have := r.dp; omega, by have := r.un; omega⟩
theorem Room.deeper {k : Nat} {A : Around} (r : Room (k + 1) A) (env : Env) : Room k (A.deeper env) :=
  ⟨r.hd, by have := r.dp; show A.depth + 1 + 3 * k + 5 < _; omega, by have := r.un; show A.units + 3 + 16 * k + 200 < _; omega⟩
theorem Room.depth {k : Nat} {A : Around} (r : Room k A) : A.depth < recursionLimit := by have := r.dp; omega
theorem Room.units {k : Nat} {A : Around} (r : Room k A) : A.units + 64 < cLine := by have := r.un; omega

noncomputable def tNil : TA := fun _ H Q => Q [] H
noncomputable def tCons (ta : TE) (tr : TA) : TA := fun σ H Q => ta σ H fun x H1 => tr σ H1 fun xs H2 => Q (x :: xs) H2
section
variable {X : Cx} {e : Expr} {es : List Expr} {te : TE} {t : TA} {pos : Pos}
theorem pa_nil : PA X [] tNil := fun _ _ _ _ H Q I h => Calls.spliced_nil ⟨[], H, I, .nil, h⟩
theorem pa_cons (ha : PE X e te) (hr : PA X es t) (hs : starEach (e :: es) X.env = (false, eval e X.env) :: starEach es X.env := by rfl) : PA X (e :: es) (tCons te t) := by
  intro pos pins s σ H Q I h
  rw [hs]
  show wpAny _ _ (spliced ((false, eval e X.env) :: backTo pos (starEach es X.env))) _ _ s
  refine Calls.spliced_cons (thn (ha pins s σ H _ I h) ?_)
  rintro u s1 ⟨x, H1, I1, r1, q1⟩
  exact thn (hr pos pins s1 σ H1 _ I1 q1) fun us s2 ⟨xs, H2, I2, r2, q2⟩ => ⟨x :: xs, H2, I2, .cons r1 r2, q2⟩

noncomputable def tTup (t : TA) : TE := fun σ H Q => t σ H fun xs H1 => xs.length ≤ sizeLine ∧ ∀ p, H1 p = none → Q (.ref p) (upd H1 p (.tup xs))
noncomputable def tLst (t : TA) : TE := fun σ H Q => t σ H fun xs H1 => xs.length ≤ sizeLine ∧ ∀ p, H1 p = none → Q (.ref p) (upd H1 p (.lst xs))
theorem pe_tup {x1} (h : PA X es t) : PE X (.Tuple es x1 pos) (tTup t) := by
  intro pins s σ H Q I hq
  refine wpAny_Tuple_spliced (thn (h pos pins s σ H _ I hq) fun us s1 ⟨xs, H1, I1, r, z, q⟩ => ⟨by rw [← r.length]; exact z, ?_⟩)
  have hf : H1 s1.heap.objs.size = none := I1.hok.fresh (Nat.le_refl _)
  refine ⟨.ref s1.heap.objs.size, upd H1 s1.heap.objs.size (.tup xs), I1.laid (t' := s1.toks) (fun b u e => Heap.get?_push_of_some _ e) (Nat.le_refl _) ?_, rfl, q _ hf⟩
  exact ⟨z, us, r, ⟨_, Heap.get?_push_size _ rfl, rfl, _, rfl⟩⟩
theorem pe_lst (h : PA X es t) : PE X (.List es pos) (tLst t) := by
  intro pins s σ H Q I hq
  refine wpAny_List_spliced (thn (h pos pins s σ H _ I hq) fun us s1 ⟨xs, H1, I1, r, z, q⟩ => ⟨by rw [← r.length]; exact z, ?_⟩)
  have hf : H1 s1.heap.objs.size = none := I1.hok.fresh (Nat.le_refl _)
  refine ⟨.ref s1.heap.objs.size, upd H1 s1.heap.objs.size (.lst xs), I1.laid (t' := s1.toks) (fun b u e => Heap.get?_push_of_some _ e) (Nat.le_refl _) ?_, rfl, q _ hf⟩
  exact ⟨z, us, 0, r, Heap.get?_push_size _ rfl⟩
end

noncomputable abbrev Sp := List V → Hp → VK → XK → Prop
noncomputable abbrev CXT := List Env → Hp → Shared → XK → Value → Shared → Prop

structure Env0 (P : Program) (w : World) (K : PySem.W.Frag) (mg : Str → Option Value) (base : Heap) (A : Around) (outer : List Env) (s : Shared) (H : Hp) : Prop where
  frames : A.frames = some outer
  mod : Mod K mg base
  bs : ∀ b o, base.get? b = some o → s.heap.get? b = some o ∧ H b = none
  bsz : base.objs.size ≤ s.heap.objs.size
  funs : s.heap.FunFrames base outer
  frf : ∀ b ∈ frs outer, H b = none
  hok : HOk P w H s.heap
  bare : AllBare s.gens
noncomputable def CE (outer : List Env) (P : Program) (w : World) (H : Hp) (s : Shared) (Q : VK) (u : Value) (s' : Shared) : Prop :=
  ∃ v H', s'.os = s.os ∧ AllBare s'.gens ∧ Un (frs outer) [] H H' s.heap s'.heap ∧ HOk P w H' s'.heap ∧ RelV v u ∧ Q v H'
noncomputable def CR (CX : CXT) (outer : List Env) (P : Program) (w : World) (H : Hp) (s : Shared) (Q : VK) (E : XK) (r : Result) (s' : Shared) : Prop :=
  match r with
  | .ok (.ret u) => CE outer P w H s Q u s'
  | .ok _ => False
  | .error e => CX outer H s E e s'
structure FnOk (P : Program) (w : World) (K : PySem.W.Frag) (mg : Str → Option Value) (base : Heap) (CX : CXT) (k : Nat) (f : Addr) (fd : FuncData) (ps : List Str) (sp : Sp) : Prop where
  len : ∀ vs H Q E, sp vs H Q E → vs.length = ps.length
  run : ∀ (A : Around) (outer : List Env) (s : Shared) (H : Hp) (args : Args) (us : List Value) (vs : List V) (Q : VK) (E : XK), Room k A → Env0 P w K mg base A outer s H → BindsTo s fd args (ps.zip us) → Vals vs us → sp vs H Q E →
    codeAny (model P w) A (.call (.ref f) args) (CR CX outer P w H s Q E) s

section
variable {X : Cx} {pins : List (Addr × Obj)} {σ : St} {H : Hp} {s s' : Shared}
theorem Inv.env0 (I : Inv X pins σ H s) : Env0 X.prog X.w X.K X.mg X.base X.A X.stack s H :=
  ⟨I.ok.frames, I.ok.mod, I.bs, Nat.le_trans I.ok.bsz I.sz, I.stack, I.stkFree, I.hok, I.bare⟩
theorem Inv.after {Q : VK} {u : Value} (I : Inv X pins σ H s) (h : CE X.stack X.prog X.w H s Q u s') : EP X pins σ Q u s' := by
  obtain ⟨v, H', os, bare, un, hok, r, q⟩ := h
  obtain ⟨hh, g, d, t, os'⟩ := s'
  obtain rfl : os' = s.os := os
  exact ⟨v, H', I.call (h' := hh) (g' := g) (d' := d) (t' := t) (ch := []) un hok bare (fun b z => absurd z (by simp)), r, q⟩
end

noncomputable def tCall (sp : Sp) (dvs : List V) (E : XK) (t : TA) : TE := fun σ H Q => t σ H fun vs H1 => sp (vs ++ dvs) H1 Q E

noncomputable def Binds (K : PySem.W.Frag) (fd : FuncData) (ps : List Str) (ds : List Value) : Prop :=
  ∀ (s : Shared) (us : List Value), K.In s.heap → (us ++ ds).length = ps.length → BindsTo s fd ⟨us, []⟩ (ps.zip (us ++ ds))
theorem Binds.all {K : PySem.W.Frag} {fd : FuncData} {ps : List Str} (h : ∀ us : List Value, us.length = ps.length → bindArgs fd ⟨us, []⟩ = pure (ps.zip us)) : Binds K fd ps [] := fun s us _ hl => by
  rw [List.append_nil] at hl ⊢
  exact .of_eq (h us hl)

noncomputable def Passes (CX : CXT) (X : Cx) (E : XK) : Prop := ∀ (pins : List (Addr × Obj)) (σ : St) (H : Hp) (s : Shared) (e : Value) (s' : Shared), Inv X pins σ H s → CX X.stack H s E e s' → X.xe e s'

section
variable {X : Cx} {CX : CXT} {k : Nat} {f C : Addr} {fd : FuncData} {ps : List Str} {sp : Sp} {dvs : List V} {ds : List Value} {E : XK} {x m : Str} {p pos apos : Pos} {e o : Expr} {es : List Expr} {ta : TE} {t : TA}

theorem run_fn {pins : List (Addr × Obj)} {σ : St} {H : Hp} {s : Shared} {Q : VK} {us : List Value} {vs : List V} (F : FnOk X.prog X.w X.K X.mg X.base CX k f fd ps sp) (hr : Room k X.A) (hb : Binds X.K fd ps ds) (hd : Vals dvs ds) (hx : Passes CX X E)
    (I : Inv X pins σ H s) (r : Vals vs us) (h : sp (vs ++ dvs) H Q E) : wpAny (model X.prog X.w) X.A (call (.ref f) us) (EP X pins σ Q) X.xe s := by
  have r2 : Vals (vs ++ dvs) (us ++ ds) := r.append hd
  have hl : (us ++ ds).length = ps.length := by rw [← r2.length]; exact F.len _ _ _ _ h
  refine wpAny_call (codeAny_mono (F.run X.A X.stack s H ⟨us, []⟩ (us ++ ds) (vs ++ dvs) Q E hr I.env0 (hb s us I.kIn hl) r2 h) fun r s' hq => ?_)
  cases r with
  | error e => exact hx pins σ H s e s' I hq
  | ok fl =>
    cases fl with
    | ret u => exact I.after hq
    | next => exact False.elim hq
    | brk => exact False.elim hq
    | cont => exact False.elim hq

theorem pe_call (F : FnOk X.prog X.w X.K X.mg X.base CX k f fd ps sp) (hr : Room k X.A) (hg : Gl X x) (hm : X.mg x = some (.ref f)) (hk : PySem.W.keepIn X.K (.ref f) = true) (hb : Binds X.K fd ps ds) (hd : Vals dvs ds) (hx : Passes CX X E)
    (ha : PA X (e :: es) t) (hdb : (x == ("__debug__" : Str)) = false := by decide) (he : starEach (e :: es) X.env = (false, eval e X.env) :: starEach es X.env := by rfl) (hpl : (backTo pos (starEach es X.env)).any (·.1) = false := by rfl) :
    PE X (.Call (.Name x p) (e :: es) [] pos) (tCall sp dvs E t) := by
  intro pins s σ H Q I h
  refine wpAny_Call_Name_kw (ld_glob I hg hm ?_ hdb)
  refine PySem.W.callWith_K (h₀ := X.base) I.ok.mod.kin hk (thn (ha pos pins s σ H _ I h) fun us s1 ⟨vs, H1, I1, r, q⟩ => ⟨I1.kIn, ?_⟩) he hpl
  exact run_fn F hr hb hd hx I1 r q

structure Mk (K : PySem.W.Frag) (C f : Addr) : Prop where
  makes : PySem.W.makesIn K C = true
  init : PySem.W.findIn K (.ref C) "__init__" = some (some (.ref f))
  fn : PySem.W.isFn K (.ref f) = true
  kp : PySem.W.keepIn K (.ref C) = true

end

section
variable {X : Cx} {CX : CXT} {k : Nat} {f C : Addr} {fd : FuncData} {ps ks : List Str} {sp : Sp} {E : XK} {x m : Str} {p pos apos kpos : Pos} {e o : Expr} {es : List Expr} {kws : List Keyword} {te ta : TE} {t tk : TA} {nm : Option Str}

structure KBinds (K : PySem.W.Frag) (fd : FuncData) (ps ks : List Str) (g : List Value → List Value → List Value) (gV : List V → List V → List V) : Prop where
  to : ∀ (s : Shared) (us ws : List Value), K.In s.heap → (g us ws).length = ps.length → BindsTo s fd ⟨us, ks.zip ws⟩ (ps.zip (g us ws))
  rel : ∀ {vs : List V} {us : List Value} {zs : List V} {ws : List Value}, Vals vs us → Vals zs ws → Vals (gV vs zs) (g us ws)
variable {g : List Value → List Value → List Value} {gV : List V → List V → List V}
end

structure FnScope (N P : List Str) (sc : Scope) : Prop where
  kind : sc.kind = .function
  co : sc.isCoroutine = false
  gen : sc.isGenerator = false
  nd : N.Nodup
  pre : N.take P.length = P
  par : ∀ x ∈ P, sc.names.lookup x = some .local ∨ sc.names.lookup x = some .cell
  nofree : ∀ y ∈ sc.names, y.2 ≠ .free

theorem bindL_out {kindOf : Str → Option NameKind} {x : Str} : ∀ {binds : List (Str × Value)} {m : Str → Option Value}, (∀ v, (x, v) ∉ binds) → bindL kindOf binds m x = m x
  | [], _, _ => rfl
  | (n, v) :: r, m, h => by
    unfold bindL
    rw [bindL_out fun w hw => h w (List.mem_cons_of_mem _ hw)]
    split
    · have : x ≠ n := by rintro rfl; exact h v List.mem_cons_self
      simp [this]
    · rfl
theorem bindC_out {kindOf : Str → Option NameKind} {x : Str} : ∀ {binds : List (Str × Value)} {m : Str → Option Value}, (∀ v, (x, v) ∉ binds) → bindC kindOf binds m x = m x
  | [], _, _ => rfl
  | (n, v) :: r, m, h => by
    unfold bindC
    rw [bindC_out fun w hw => h w (List.mem_cons_of_mem _ hw)]
    split
    · rfl
    · have : x ≠ n := by rintro rfl; exact h v List.mem_cons_self
      simp [this]
theorem bindL_get {kindOf : Str → Option NameKind} {x : Str} {v : Value} : ∀ {P : List Str} {vs : List Value} {i : Nat} {m : Str → Option Value}, P.Nodup → P[i]? = some x → vs[i]? = some v → kindOf x = some .local →
    bindL kindOf (P.zip vs) m x = some v
  | [], _, _, _, _, h, _, _ => by simp at h
  | _ :: _, [], _, _, _, _, h, _ => by simp at h
  | p :: P, w :: vs, 0, m, nd, h1, h2, hk => by
    simp at h1 h2; subst h1; subst h2
    show bindL kindOf ((p, w) :: P.zip vs) m p = _
    unfold bindL
    rw [bindL_out fun v hv => (List.nodup_cons.mp nd).1 (List.of_mem_zip hv).1, if_pos hk]
    simp
  | p :: P, w :: vs, i + 1, m, nd, h1, h2, hk => by
    show bindL kindOf ((p, w) :: P.zip vs) m x = _
    unfold bindL
    exact bindL_get (i := i) (List.nodup_cons.mp nd).2 (by simpa using h1) (by simpa using h2) hk
theorem bindC_get {kindOf : Str → Option NameKind} {x : Str} {v : Value} : ∀ {P : List Str} {vs : List Value} {i : Nat} {m : Str → Option Value}, P.Nodup → P[i]? = some x → vs[i]? = some v → kindOf x ≠ some .local →
    bindC kindOf (P.zip vs) m x = some v
  | [], _, _, _, _, h, _, _ => by simp at h
  | _ :: _, [], _, _, _, _, h, _ => by simp at h
  | p :: P, w :: vs, 0, m, nd, h1, h2, hk => by
    simp at h1 h2; subst h1; subst h2
    show bindC kindOf ((p, w) :: P.zip vs) m p = _
    unfold bindC
    rw [bindC_out fun v hv => (List.nodup_cons.mp nd).1 (List.of_mem_zip hv).1, if_neg hk]
    simp
  | p :: P, w :: vs, i + 1, m, nd, h1, h2, hk => by
    show bindC kindOf ((p, w) :: P.zip vs) m x = _
    unfold bindC
    exact bindC_get (i := i) (List.nodup_cons.mp nd).2 (by simpa using h1) (by simpa using h2) hk

noncomputable def start (N : List Str) (vs : List V) : St := vs.map some ++ List.replicate (N.length - vs.length) none

noncomputable def cxOf (CX : CXT) (P : Program) (w : World) (K : PySem.W.Frag) (mg : Str → Option Value) (base : Heap) (N : List Str) (qual : Str) (scope : Scope) (f : Addr) (cd : Value) (A : Around) (outer : List Env) (s : Shared) (H : Hp) (E : XK) : Cx where
  prog := P
  w := w
  K := K
  mg := mg
  base := base
  A := A.deeper (envOfC qual scope s.heap.objs.size f cd)
  N := N
  s₀ := s
  H₀ := H
  env := envOfC qual scope s.heap.objs.size f cd
  outer := outer
  stack := envOfC qual scope s.heap.objs.size f cd :: outer
  ex := []
  calm := true
  fn := fun _ => true
  pn := []
  xe := fun e s' => wpAny (model P w) (A.deeper (envOfC qual scope s.heap.objs.size f cd)) (leaving (envOfC qual scope s.heap.objs.size f cd) e) (fun _ s'' => CX outer H s E e s'') (fun e' s'' => CX outer H s E e' s'') s'

theorem cell_has {sc : Scope} {n : Nat} {x : Str} (h : sc.names.lookup x = some .cell) : ∃ c, (cellsFrom n sc.names []).lookup x = some c := by
  have q := PySem.W.cellsFrom_some sc.names n [] (.inl h)
  exact Option.isSome_iff_exists.mp q

theorem inv_start {CX : CXT} {P : Program} {w : World} {K : PySem.W.Frag} {mg : Str → Option Value} {base : Heap} {N ps : List Str} {qual : Str} {scope : Scope} {f : Addr} {cd : Value} {A : Around} {outer : List Env} {s s1 : Shared} {H : Hp} {E : XK} {us : List Value} {vs : List V}
    (S : FnScope N ps scope) (hd : A.handled = none) (e0 : Env0 P w K mg base A outer s H) (hl : vs.length = ps.length) (r : Vals vs us)
    (x : InCallC s s.heap.objs.size (bindL (envOfC qual scope s.heap.objs.size f cd).kindOf (ps.zip us) fun _ => none) (cellsFrom (s.heap.objs.size + 1) scope.names []) (bindC (envOfC qual scope s.heap.objs.size f cd).kindOf (ps.zip us) fun _ => none) s1) :
    Inv (cxOf CX P w K mg base N qual scope f cd A outer s H E) [] (start N vs) H s1 := by
  have hpl : ps.length ≤ N.length := by have := congrArg List.length S.pre; rw [List.length_take] at this; omega
  obtain ⟨h1, tk, rfl, hk⟩ := x.done
  have noA : ∀ b : Addr, b ∉ (cxOf CX P w K mg base N qual scope f cd A outer s H E).ex := fun b z => absurd (show b ∈ ([] : List Addr) from z) (by simp)
  refine ⟨⟨e0.mod, S.kind, rfl, rfl, Nat.le_refl _, fun y z c h1 h2 => ?_, fun y hy => ?_, fun y c _ h => ?_, fun _ => hd, Around.frames_deeper e0.frames, .inr ⟨rfl, rfl⟩, fun b z => absurd z (noA b), e0.bs, e0.bsz, fun b _ _ => noA b, fun b z => absurd z (noA b), e0.funs, e0.frf⟩,
    rfl, e0.bare, Un.kept hk, ⟨_, x.toInCall.ns, fun i y v h1 h2 h3 => ?_⟩, fun y c h => ⟨_, x.cell y c h⟩, e0.hok.fresh (Nat.le_refl _), fun y c h => ?_, fun p hp => absurd (show p ∈ ([] : List (Addr × Obj)) from hp) (by simp), e0.hok.kept hk, ?_⟩
  · exact name_of_addr x.apart (PySem.mem_of_lookup h1) (PySem.mem_of_lookup h2)
  · have hy : scope.names.lookup y = some .cell ∨ scope.names.lookup y = some .free := hy
    rcases hy with hy | hy
    · exact cell_has hy
    · exact absurd rfl (S.nofree _ (PySem.mem_of_lookup hy))
  · exact Nat.le_of_lt (x.above y c (PySem.mem_of_lookup h))
  · have hi : i < vs.length := by
      unfold start at h2
      by_cases hi : i < vs.length
      · exact hi
      · rw [List.getElem?_append_right (by simpa using hi)] at h2
        rw [List.getElem?_replicate] at h2
        split at h2 <;> cases h2
    have ha : vs[i]? = some v := by
      unfold start at h2
      rw [List.getElem?_append_left (by simpa using hi), List.getElem?_map] at h2
      cases e : vs[i]? with
      | none => rw [e] at h2; cases h2
      | some a => rw [e] at h2; cases h2; rfl
    obtain ⟨u, hu, rv⟩ := r.get ha
    have hp : ps[i]? = some y := by
      rw [← S.pre, List.getElem?_take_of_lt (by omega)]; exact h1
    have ndP : ps.Nodup := by rw [← S.pre]; exact S.nd.sublist (List.take_sublist _ _)
    refine ⟨u, rv, ?_⟩
    rcases S.par y (List.mem_of_getElem? hp) with k | k
    · exact .inl ⟨k, bindL_get ndP hp hu k⟩
    · obtain ⟨c, e⟩ := cell_has (n := s.heap.objs.size + 1) k
      refine .inr ⟨.inl k, c, e, ?_⟩
      have q := x.cell y c e
      rw [bindC_get ndP hp hu (by show scope.names.lookup y ≠ _; rw [k]; decide)] at q
      exact q
  · exact e0.hok.fresh (Nat.le_of_lt (x.above y c (PySem.mem_of_lookup h)))
  · unfold start
    show _ = N.length
    rw [List.length_append, List.length_map, List.length_replicate]
    omega

theorem fn_of {CX : CXT} {P : Program} {w : World} {K : PySem.W.Frag} {mg : Str → Option Value} {base : Heap} {k : Nat} {f : Addr} {name qual : Str} {params : Arguments} {body : List Stmt} {scope : Scope} {dV kV doc pm cdv ct oc : Value} {an od : Option Addr}
    {osl : Array (Option Value)} {N ps : List Str} {sp : Sp} (lk : K.lookup f = some ⟨oc, od, .func (PySem.W.fnOf name qual params body scope dV kV doc pm an cdv ct), osl⟩) (hcd : PySem.W.codeIn K cdv qual = true) (S : FnScope N ps scope)
    (len : ∀ vs H Q E, sp vs H Q E → vs.length = ps.length)
    (hbody : ∀ (A : Around) (outer : List Env) (s : Shared) (H : Hp) (vs : List V) (Q : VK) (E : XK), Room k (A.deeper (envOfC qual scope s.heap.objs.size f cdv)) → sp vs H Q E →
      ∃ t, PSs (cxOf CX P w K mg base N qual scope f cdv A outer s H E) body t ∧ t { nx := fun _ H' => Q .non H', rt := Q } (start N vs) H) :
    FnOk P w K mg base CX (k + 1) f (PySem.W.fnOf name qual params body scope dV kV doc pm an cdv ct) ps sp := by
  refine ⟨len, fun A outer s H args us vs Q E hr e0 hb r hsp => ?_⟩
  have hl := len _ _ _ _ hsp
  have KX : K.In s.heap := e0.mod.kin.keeps fun b o e => (e0.bs b o e).1
  have lim : s.heap.NoLimit := e0.mod.nolimit.keeps fun b o e => (e0.bs b o e).1
  have hkind : ∀ y ∈ ps.zip us, scope.names.lookup y.1 = some .local ∨ (scope.names.lookup y.1 = some .cell ∧ ((cellsFrom (s.heap.objs.size + 1) scope.names []).lookup y.1).isSome = true) := fun ⟨n, v⟩ hy => by
    rcases S.par n (List.of_mem_zip hy).1 with q | q
    · exact .inl q
    · exact .inr ⟨q, PySem.W.cellsFrom_some _ _ _ (.inl q)⟩
  refine codeAny_call_function hr.depth (KX _ _ lk) rfl S.co S.gen rfl (PySem.W.codeRec_of KX hcd) (hb _ _ _ _ ?_)
  refine wpAny_newFunctionEnv_cells S.kind hkind fun env he s1 x => ?_
  subst he
  refine ⟨lim.keeps x.toInCall.keep, codeAny_func ?_⟩
  obtain ⟨t, ht, hq⟩ := hbody A outer s H vs Q E (hr.deeper _) hsp
  have I : Inv (cxOf CX P w K mg base N qual scope f cdv A outer s H E) [] (start N vs) H s1 := inv_start S hr.hd e0 hl r x
  refine wpAny_mono (ht [] s1 (start N vs) H _ I hq) (fun fl s' hs => ?_) fun e s' hs => hs
  have fin : ∀ {σ' : St} {H' : Hp} {v : V} {u : Value}, Inv (cxOf CX P w K mg base N qual scope f cdv A outer s H E) [] σ' H' s' → RelV v u → Q v H' → CE outer P w H s Q u s' :=
    fun {σ' H' v u} J rv q => ⟨v, H', J.os, J.bare, J.base, J.hok, rv, q⟩
  cases fl with
  | ret u =>
    obtain ⟨v, σ', H', J, rv, q⟩ := hs
    exact fin J rv q
  | next =>
    obtain ⟨σ', H', J, q⟩ := hs
    exact fin (v := V.non) (u := Value.none) J rfl q
  | brk =>
    obtain ⟨_, _, _, q⟩ := hs
    exact False.elim q
  | cont =>
    obtain ⟨_, _, _, q⟩ := hs
    exact False.elim q
end L2

namespace L2
open PySem PySem.Spec PyProof.Rows
section
variable {X : Cx} {x : Str} {p pos : Pos} {e : Expr} {es : List Expr} {t : TA} {id T : String} {r : List V → Hp → VK → Prop}

noncomputable def tCB (r : List V → Hp → VK → Prop) (t : TA) : TE := fun σ H Q => t σ H fun vs H1 => r vs H1 Q
theorem pe_callB (hc : CallR X (.builtin id) r) (hg : Gl X x) (hm : X.mg x = none) (hv : bootBuiltins x = some (.builtin id)) (ha : PA X (e :: es) t) (hn : x ≠ "__name__" := by decide) (hdb : (x == ("__debug__" : Str)) = false := by decide)
    (he : starEach (e :: es) X.env = (false, eval e X.env) :: starEach es X.env := by rfl) (hpl : (backTo pos (starEach es X.env)).any (·.1) = false := by rfl) : PE X (.Call (.Name x p) (e :: es) [] pos) (tCB r t) := by
  intro pins s σ H Q I h
  refine wpAny_Call_Name_kw (ld_blt I hg hm hv ?_ hn hdb)
  exact PyProof.Rows.callWith_builtin1 (thn (ha pos pins s σ H _ I h) fun us s1 ⟨vs, H1, I1, r1, q1⟩ => hc pins s1 σ H1 vs us Q I1 r1 q1) he hpl
theorem pe_callTy (hc : CallR X (.type T) r) (hg : Gl X x) (hm : X.mg x = none) (hv : bootBuiltins x = some (.type T)) (ha : PA X (e :: es) t) (hn : x ≠ "__name__" := by decide) (hdb : (x == ("__debug__" : Str)) = false := by decide)
    (he : starEach (e :: es) X.env = (false, eval e X.env) :: starEach es X.env := by rfl) (hpl : (backTo pos (starEach es X.env)).any (·.1) = false := by rfl) : PE X (.Call (.Name x p) (e :: es) [] pos) (tCB r t) := by
  intro pins s σ H Q I h
  refine wpAny_Call_Name_kw (ld_blt I hg hm hv ?_ hn hdb)
  exact PyProof.Rows.callWith_type1 (thn (ha pos pins s σ H _ I h) fun us s1 ⟨vs, H1, I1, r1, q1⟩ => hc pins s1 σ H1 vs us Q I1 r1 q1) he hpl
end
end L2
namespace L2
open PySem PySem.Spec PyProof.Rows

section
variable {κ : Type} [DecidableEq κ]
noncomputable def valV (kvs : List (κ × V)) (k : κ) : Option V := (kvs.find? fun kv => decide (kv.1 = k)).map (·.2)
noncomputable def putK (kvs : List (κ × V)) (k : κ) (v : V) : List (κ × V) :=
  if (kvs.any fun kv => decide (kv.1 = k)) = true then kvs.map (fun kv => if kv.1 = k then (kv.1, v) else kv) else kvs ++ [(k, v)]

theorem valV_pos {p : κ × V} {r : List (κ × V)} {k : κ} (e : p.1 = k) : valV (p :: r) k = some p.2 := by simp [valV, List.find?_cons, e]
theorem valV_neg {p : κ × V} {r : List (κ × V)} {k : κ} (e : ¬ p.1 = k) : valV (p :: r) k = valV r k := by simp [valV, List.find?_cons, e]
theorem valV_any (k : κ) : ∀ kvs : List (κ × V), (kvs.any fun kv => decide (kv.1 = k)) = (valV kvs k).isSome
  | [] => rfl
  | p :: r => by
    rw [List.any_cons]
    by_cases e : p.1 = k
    · simp only [valV_pos e, decide_eq_true e, Bool.true_or, Option.isSome_some]
    · rw [valV_neg e, decide_eq_false e, Bool.false_or]; exact valV_any k r
theorem length_putK (kvs : List (κ × V)) (k : κ) (v : V) : (putK kvs k v).length ≤ kvs.length + 1 := by
  unfold putK
  split
  · rw [List.length_map]; omega
  · rw [List.length_append, List.length_cons, List.length_nil]; omega

theorem RelO.isSome_eq {o : Option V} {u : Option Value} (r : RelO o u) : o.isSome = u.isSome := by
  cases o with
  | none => cases u with
    | none => rfl
    | some _ => exact (show False from r).elim
  | some _ => cases u with
    | none => exact (show False from r).elim
    | some _ => rfl
theorem RelO.getD {o : Option V} {u : Option Value} {d : V} {d' : Value} (r : RelO o u) (rd : RelV d d') : RelV (o.getD d) (u.getD d') := by
  cases o with
  | none => cases u with
    | none => exact rd
    | some _ => exact (show False from r).elim
  | some _ => cases u with
    | none => exact (show False from r).elim
    | some _ => exact r

theorem KV.val {kvs : List (κ × V)} {vs : List (κ × Value)} (r : KV kvs vs) (k : κ) : RelO (valV kvs k) (valueAt vs k) := by
  unfold KV at r
  induction r with
  | nil => exact True.intro
  | @cons p q ps qs h t ih =>
    obtain ⟨h1, h2⟩ := h
    by_cases e : p.1 = k
    · have e' : q.1 = k := h1.symm.trans e
      have b : valueAt (q :: qs) k = some q.2 := by simp [valueAt, List.find?_cons, e']
      rw [valV_pos e, b]; exact h2
    · have e' : ¬ q.1 = k := fun z => e (h1.trans z)
      have b : valueAt (q :: qs) k = valueAt qs k := by simp [valueAt, List.find?_cons, e']
      rw [valV_neg e, b]; exact ih
theorem KV.any {kvs : List (κ × V)} {vs : List (κ × Value)} (r : KV kvs vs) (k : κ) : (kvs.any fun kv => decide (kv.1 = k)) = vs.any fun kv => decide (kv.1 = k) := by
  unfold KV at r
  induction r with
  | nil => rfl
  | cons h t ih => rw [List.any_cons, List.any_cons, ih, h.1]
theorem KV.repl {kvs : List (κ × V)} {vs : List (κ × Value)} (r : KV kvs vs) (k : κ) {y : V} {u : Value} (ry : RelV y u) :
    KV (kvs.map fun kv => if kv.1 = k then (kv.1, y) else kv) (vs.map fun kv => if kv.1 = k then (kv.1, u) else kv) := by
  unfold KV at r ⊢
  induction r with
  | nil => exact .nil
  | @cons p q ps qs h t ih =>
    rw [List.map_cons, List.map_cons]
    refine .cons ?_ ih
    obtain ⟨h1, h2⟩ := h
    by_cases e : p.1 = k
    · rw [if_pos e, if_pos (h1.symm.trans e)]; exact ⟨h1, ry⟩
    · rw [if_neg e, if_neg (fun z => e (h1.trans z))]; exact ⟨h1, h2⟩
theorem KV.put {kvs : List (κ × V)} {vs : List (κ × Value)} (r : KV kvs vs) (k : κ) {y : V} {u : Value} (ry : RelV y u) : KV (putK kvs k y) (stored vs k u) := by
  unfold putK stored
  rw [r.any k]
  by_cases e : (vs.any fun kv => decide (kv.1 = k)) = true
  · rw [if_pos e, if_pos e]; exact r.repl k ry
  · rw [if_neg e, if_neg e]; exact Paired.snoc r ⟨rfl, ry⟩
theorem KV.length {kvs : List (κ × V)} {vs : List (κ × Value)} (r : KV kvs vs) : kvs.length = vs.length := Paired.length r
end

theorem kV_is {P : Program} {w : World} {k : Key} {u : Value} (r : RelV (kV k) u) : (mixKind P w).is k u = true := by
  cases k with
  | inl i => obtain ⟨t, e⟩ := (show ∃ t, u = Value.int i t from r); subst e; exact mixKind_int P w i t
  | inr x => obtain ⟨t, e⟩ := (show ∃ t, u = Value.str x t from r); subst e; exact mixKind_str P w x t
theorem items_are {P : Program} {w : World} : ∀ {ks : List Key} {us : List Value}, Vals (ks.map kV) us → ItemsAre (mixKind P w) ks us
  | [], _, r => by rw [List.map_nil] at r; cases r; exact .nil
  | k :: ks, _, r => by
    rw [List.map_cons] at r
    cases r with
    | cons h t => exact .cons (kV_is h) (items_are t)

noncomputable abbrev KT (H : Hp) : List (List Key × V) → List (List Key × Addr × Value) → Prop := Paired fun p q => p.1 = q.1 ∧ H q.2.1 = some (.tup (p.1.map kV)) ∧ RelV p.2 q.2.2
theorem KT.val {H : Hp} {kvs : List (List Key × V)} {xs : List (List Key × Addr × Value)} (r : KT H kvs xs) (k : List Key) : RelO (valV kvs k) ((atKey xs k).map (·.2)) := by
  induction r with
  | nil => exact True.intro
  | @cons p q ps qs h t ih =>
    obtain ⟨h1, _, h2⟩ := h
    by_cases e : p.1 = k
    · have e' : q.1 = k := h1.symm.trans e
      have b : atKey (q :: qs) k = some q.2 := by simp [atKey, List.find?_cons, e']
      rw [valV_pos e, b]; exact h2
    · have e' : ¬ q.1 = k := fun z => e (h1.trans z)
      have b : atKey (q :: qs) k = atKey qs k := by simp [atKey, List.find?_cons, e']
      rw [valV_neg e, b]; exact ih
theorem KT.repl {H : Hp} {kvs : List (List Key × V)} {xs : List (List Key × Addr × Value)} (r : KT H kvs xs) (k : List Key) {y : V} {u : Value} (ry : RelV y u) :
    KT H (kvs.map fun kv => if kv.1 = k then (kv.1, y) else kv) (xs.map (putAt k u)) := by
  induction r with
  | nil => exact .nil
  | @cons p q ps qs h t ih =>
    rw [List.map_cons, List.map_cons]
    refine .cons ?_ ih
    obtain ⟨h1, h2, h3⟩ := h
    unfold putAt
    by_cases e : p.1 = k
    · rw [if_pos e, if_pos (h1.symm.trans e)]; exact ⟨h1, h2, ry⟩
    · rw [if_neg e, if_neg (fun z => e (h1.trans z))]; exact ⟨h1, h2, h3⟩
theorem KT.put {H : Hp} {kvs : List (List Key × V)} {xs : List (List Key × Addr × Value)} (r : KT H kvs xs) (k : List Key) {b : Addr} {y : V} {u : Value} (hb : H b = some (.tup (k.map kV))) (ry : RelV y u) :
    KT H (putK kvs k y) (storedH xs k b u) := by
  have e : (kvs.any fun kv => decide (kv.1 = k)) = (atKey xs k).isSome := by
    rw [valV_any, (r.val k).isSome_eq, Option.isSome_map]
  unfold putK storedH
  rw [e]
  by_cases q : (atKey xs k).isSome = true
  · rw [if_pos q, if_pos q]; exact r.repl k ry
  · rw [if_neg q, if_neg q]; exact Paired.snoc r ⟨rfl, hb, ry⟩
theorem KT.keeps {H H' : Hp} {kvs : List (List Key × V)} {xs : List (List Key × Addr × Value)} (r : KT H kvs xs) (ht : ∀ b ys, H b = some (.tup ys) → H' b = some (.tup ys)) : KT H' kvs xs :=
  Paired.mapP r fun _ _ z => ⟨z.1, ht _ _ z.2.1, z.2.2⟩

section
variable {P : Program} {w : World} {H : Hp} {h : Heap} {a : Addr}
theorem rd_of {u : HO} (ok : HOk P w H h) (e : Rd H a u) : ObjOk P w H h a u := e.ok ok
theorem dk_rd {kvs : List (Key × V)} (ok : HOk P w H h) (e : Rd H a (.dK kvs)) : kvs.length ≤ sizeLine ∧ (a == sysModules) = false ∧ ∃ vs, KV kvs vs ∧ h.DictOf (mixKind P w) a vs :=
  show ObjOk P w H h a (.dK kvs) from rd_of ok e
theorem dk_of {kvs : List (Key × V)} (ok : HOk P w H h) (e : H a = some (.dK kvs)) : kvs.length ≤ sizeLine ∧ (a == sysModules) = false ∧ ∃ vs, KV kvs vs ∧ h.DictOf (mixKind P w) a vs := dk_rd ok (.inl e)
theorem key_of {ks : List Key} (ok : HOk P w H h) (e : H a = some (.tup (ks.map kV))) : (tupleKind (mixKind P w)).is h ks a := by
  obtain ⟨_, its, r, o, h1, h2, n, h3⟩ := (show ObjOk P w H h a (.tup (ks.map kV)) from ok a _ e)
  exact ⟨o, its.toArray, n, h1, h2, h3, by simpa using items_are r⟩
theorem dt_rd {kvs : List (List Key × V)} (ok : HOk P w H h) (e : Rd H a (.dT kvs)) : kvs.length ≤ sizeLine ∧ (a == sysModules) = false ∧
    ∃ xs, KT H kvs xs ∧ h.DictOfH (tupleKind (mixKind P w)) a xs := by
  obtain ⟨z, y, xs, r, o, es, ep, h1, h2, h3, h4, h5⟩ := (show ObjOk P w H h a (.dT kvs) from rd_of ok e)
  refine ⟨z, y, xs, r, o, es, ep, h1, h2, h3, h4, fun x hx => ?_, h5⟩
  have all : ∀ {l : List (List Key × V)} {m : List (List Key × Addr × Value)}, KT H l m → ∀ x ∈ m, (tupleKind (mixKind P w)).is h x.1 x.2.1 := by
    intro l m q
    induction q with
    | nil => intro x hx; exact nomatch hx
    | @cons p q ps qs hq t ih =>
      intro x hx
      rcases List.mem_cons.mp hx with e | hx
      · subst e
        exact key_of ok (by rw [← hq.1]; exact hq.2.1)
      · exact ih x hx
  exact all r x hx
theorem dt_of {kvs : List (List Key × V)} (ok : HOk P w H h) (e : H a = some (.dT kvs)) : kvs.length ≤ sizeLine ∧ (a == sysModules) = false ∧
    ∃ xs, KT H kvs xs ∧ h.DictOfH (tupleKind (mixKind P w)) a xs := dt_rd ok (.inl e)
end

noncomputable def DGet (H : Hp) (a : Addr) (y : V) (r : Option V) : Prop :=
  (∃ kvs k, Rd H a (.dK kvs) ∧ y = kV k ∧ r = valV kvs k) ∨ ∃ kvs k b, Rd H a (.dT kvs) ∧ y = .ref b ∧ H b = some (.tup (k.map kV)) ∧ r = valV kvs k
noncomputable def DPut (H : Hp) (a : Addr) (y v : V) (H' : Hp) : Prop :=
  (∃ kvs k, H a = some (.dK kvs) ∧ y = kV k ∧ kvs.length < sizeLine ∧ H' = upd H a (.dK (putK kvs k v))) ∨
  ∃ kvs k b, H a = some (.dT kvs) ∧ y = .ref b ∧ H b = some (.tup (k.map kV)) ∧ kvs.length < sizeLine ∧ H' = upd H a (.dT (putK kvs k v))
theorem DPut.t {H : Hp} {a b : Addr} {kvs : List (List Key × V)} {k : List Key} {v : V} (e : H a = some (.dT kvs)) (eb : H b = some (.tup (k.map kV))) (hl : kvs.length < sizeLine) :
    DPut H a (.ref b) v (upd H a (.dT (putK kvs k v))) := .inr ⟨kvs, k, b, e, rfl, eb, hl, rfl⟩

section
variable {X : Cx} {pins : List (Addr × Obj)} {σ : St} {H : Hp} {s : Shared} {a : Addr} {y v : V} {u r : Value} {o : Option V} {A : Around} {E : Value → Shared → Prop}

theorem Inv.big (I : Inv X pins σ H s) : sysModules < s.heap.objs.size := by
  have h : mainGlobals < s.heap.objs.size := (I.mod.glob.keeps I.bk).lt
  exact Nat.lt_trans (by decide) h

theorem d_getItem {Q : Value → Shared → Prop} (hu : A.units + 1 < cLine) (I : Inv X pins σ H s) (g : DGet H a y (some v)) (ry : RelV y u) (h : ∀ w' s', Inv X pins σ H s' → RelV v w' → Q w' s') :
    wpAny (model X.prog X.w) A (getItem (.ref a) u) Q E s := by
  rcases g with ⟨kvs, k, e, ey, l⟩ | ⟨kvs, k, b, e, ey, eb, l⟩
  · subst ey
    obtain ⟨z, hd, vs, rel, dd⟩ := dk_rd I.hok e
    obtain ⟨w', hw, rw'⟩ := RelO.some_of (v := v) (o := valueAt vs k) (by rw [l]; exact rel.val k)
    exact wpAny_getItem_of (kV_is ry) dd.mapOf hw (h w' _ (I.tok _) rw')
  · subst ey
    cases (show u = Value.ref b from ry)
    obtain ⟨z, hd, xs, rel, dd⟩ := dt_rd I.hok e
    obtain ⟨w', hw, rw'⟩ := RelO.some_of (v := v) (o := (atKey xs k).map (·.2)) (by rw [l]; exact rel.val k)
    obtain ⟨p, hp, hp2⟩ := Option.map_eq_some_iff.mp hw
    refine wpAny_getItem_heap (tupleKind_room_in1 hu) (key_of I.hok eb) dd hp ?_
    rw [hp2]
    exact h w' _ (I.tok _) rw'
theorem d_in {Q : Value → Shared → Prop} (hu : A.units + 1 < cLine) (I : Inv X pins σ H s) (g : DGet H a y o) (ry : RelV y u) (h : ∀ s', Inv X pins σ H s' → Q (.bool o.isSome) s') :
    wpAny (model X.prog X.w) A (compareOp .In u (.ref a)) Q E s := by
  rcases g with ⟨kvs, k, e, ey, l⟩ | ⟨kvs, k, b, e, ey, eb, l⟩
  · subst ey
    obtain ⟨z, hd, vs, rel, dd⟩ := dk_rd I.hok e
    refine wpAny_in_of (kV_is ry) hd dd.mapOf ?_
    rw [← (rel.val k).isSome_eq, ← l]
    exact h _ (I.tok _)
  · subst ey
    cases (show u = Value.ref b from ry)
    obtain ⟨z, hd, xs, rel, dd⟩ := dt_rd I.hok e
    refine wpAny_in_heap (tupleKind_room_in1 hu) (key_of I.hok eb) hd dd ?_
    have q := (rel.val k).isSome_eq
    rw [Option.isSome_map] at q
    rw [← q, ← l]
    exact h _ (I.tok _)
theorem d_notIn {Q : Value → Shared → Prop} (hu : A.units + 1 < cLine) (I : Inv X pins σ H s) (g : DGet H a y o) (ry : RelV y u) (h : ∀ s', Inv X pins σ H s' → Q (.bool (!o.isSome)) s') :
    wpAny (model X.prog X.w) A (compareOp .NotIn u (.ref a)) Q E s := by
  rcases g with ⟨kvs, k, e, ey, l⟩ | ⟨kvs, k, b, e, ey, eb, l⟩
  · subst ey
    obtain ⟨z, hd, vs, rel, dd⟩ := dk_rd I.hok e
    refine wpAny_notIn_of (kV_is ry) hd dd.mapOf ?_
    rw [← (rel.val k).isSome_eq, ← l]
    exact h _ (I.tok _)
  · subst ey
    cases (show u = Value.ref b from ry)
    obtain ⟨z, hd, xs, rel, dd⟩ := dt_rd I.hok e
    refine wpAny_notIn_heap (tupleKind_room_in1 hu) (key_of I.hok eb) hd dd ?_
    have q := (rel.val k).isSome_eq
    rw [Option.isSome_map] at q
    rw [← q, ← l]
    exact h _ (I.tok _)
theorem d_write {h' : Heap} {t' : Nat} {ob : HO} (I : Inv X pins σ H s) (mu : Mut (H a)) (hs : Heap.SameBut a s.heap h') (he : ∃ q, h'.get? a = some q) (new : ObjOk X.prog X.w (upd H a ob) h' a ob) :
    Inv X pins σ (upd H a ob) { s with heap := h', toks := t' } :=
  I.write (x := a) (e := a) mu (.inl rfl) (fun b q hb z => (hs.2 b hb).trans z) he new
theorem dk_new {P : Program} {w : World} {H' : Hp} {h' : Heap} {kvs : List (Key × V)} {vs : List (Key × Value)} (z : kvs.length ≤ sizeLine) (hd : (a == sysModules) = false) (rel : KV kvs vs) (dd : h'.DictOf (mixKind P w) a vs) :
    ObjOk P w H' h' a (.dK kvs) := ⟨z, hd, vs, rel, dd⟩
theorem d_setItem {H' : Hp} {Q : Unit → Shared → Prop} (hu : A.units + 1 < cLine) (I : Inv X pins σ H s) (g : DPut H a y v H') (ry : RelV y u) (rv : RelV v r) (h : ∀ s', Inv X pins σ H' s' → Q () s') :
    wpAny (model X.prog X.w) A (setItem (.ref a) u r) Q E s := by
  rcases g with ⟨kvs, k, e, ey, l, eH⟩ | ⟨kvs, k, b, e, ey, eb, l, eH⟩
  · subst ey eH
    obtain ⟨z, hd, vs, rel, dd⟩ := dk_of I.hok e
    have hz : vs.length ≤ sizeLine := by rw [← rel.length]; exact z
    have hl : (putK kvs k v).length ≤ sizeLine := by have := length_putK kvs k v; omega
    refine wpAny_setItem_pairs (hsz := hz) (kV_is ry) dd fun h' dd' hs => h _ ?_
    have he : ∃ q, h'.get? a = some q := let ⟨q, _, _, hq, _⟩ := dd'; ⟨q, hq⟩
    exact d_write I (by rw [e]; exact True.intro) hs he (dk_new hl hd (rel.put k rv) dd')
  · subst ey eH
    cases (show u = Value.ref b from ry)
    obtain ⟨z, hd, xs, rel, dd⟩ := dt_of I.hok e
    have hz : xs.length ≤ sizeLine := by rw [← Paired.length rel]; exact z
    have hl : (putK kvs k v).length ≤ sizeLine := by have := length_putK kvs k v; omega
    refine wpAny_setItem_heap (hsz := hz) (tupleKind_room_in1 hu) (key_of I.hok eb) dd fun h' dd' hs => h _ ?_
    obtain ⟨q, es, ep, hq, h2, h3, h4, _, h5⟩ := dd'
    refine d_write I (by rw [e]; exact True.intro) hs ⟨q, hq⟩ ⟨hl, hd, _, (rel.put k eb rv).keeps fun c ys ec => ?_, q, es, ep, hq, h2, h3, h4, h5⟩
    rw [upd_ne (ne_of ec e (fun z => nomatch z))]
    exact ec
end

section
variable {X : Cx} {pins : List (Addr × Obj)} {σ : St} {H : Hp} {s : Shared} {a : Addr} {kvs : List (Key × V)} {k : Key} {u : Value} {A : Around} {E : Value → Shared → Prop}
end

noncomputable def NoSl (i : Expr) : Prop := ∀ ov iv, subscripted i false ov iv = operate [ov, iv] (getItem ov iv)
theorem subD_of {prog : Program} {w : World} {A : Around} {E : Value → Shared → Prop} {s : Shared} {env : Env} {value slice : Expr} {pos : Pos} {T id : String} {Q : Value → Shared → Prop}
    (hl : typeLookup (.type T) "__getitem__" = pure (some (.builtin id))) (hs : NoSl slice)
    (h : wpAny (model prog w) A (eval value env) (fun o s₁ => wpAny (model prog w) A (eval slice env) (fun i s₂ => s₂.TypeIs o T ∧ wpAny (model prog w) A (getItem o i) Q E s₂) E s₁) E s) :
    wpAny (model prog w) A (eval (.Subscript value slice pos) env) Q E s := by
  refine Subscript_ (wpAny_mono h (fun o s₁ h₁ => wpAny_mono h₁ (fun i s₂ h₂ => ?_) fun _ _ x => x) fun _ _ x => x)
  obtain ⟨hT, h₂⟩ := h₂
  unfold subscriptTail
  refine wpAny_bind ?_
  rw [getitemInPython_of_ne hT.not_modules]
  refine wpAny_bind (wpAny_specialOf hT hl ?_)
  have fin : wpAny (model prog w) A (subscripted slice false o i) (fun r s₃ => wpAny (model prog w) A (letTemporaryGo value o r >>= fun _ => pure r) Q E s₃) E s₂ := by
    rw [hs o i]
    exact wpAny_operating (wpAny_mono h₂ (fun r s₃ h₃ => wpAny_bind (wpAny_letTemporaryGo (wpAny_pure h₃))) fun _ _ x => x)
  first
    | exact wpAny_pure (wpAny_bind fin)
    | exact wpAny_bind (wpAny_pure (wpAny_bind fin))
    | exact wpAny_bind fin

theorem dict_typeIs {X : Cx} {pins : List (Addr × Obj)} {σ : St} {H : Hp} {s : Shared} {a : Addr} {y : V} {o : Option V} (I : Inv X pins σ H s) (g : DGet H a y o) : s.TypeIs (.ref a) "dict" := by
  rcases g with ⟨kvs, k, e, _, _⟩ | ⟨kvs, k, b, e, _, _, _⟩
  · obtain ⟨_, _, vs, _, dd⟩ := dk_rd I.hok e
    exact dd.typeIs
  · obtain ⟨_, _, xs, _, dd⟩ := dt_rd I.hok e
    exact dd.typeIs

noncomputable def tDGet (td ty : TE) : TE := fun σ H Q => td σ H fun x H1 => ty σ H1 fun y H2 => ∃ a v, x = .ref a ∧ DGet H2 a y (some v) ∧ Q v H2
noncomputable def tDIn (ty td : TE) : TE := fun σ H Q => ty σ H fun y H1 => td σ H1 fun x H2 => ∃ a o, x = .ref a ∧ DGet H2 a y o ∧ Q (.bl o.isSome) H2
noncomputable def tDNotIn (ty td : TE) : TE := fun σ H Q => ty σ H fun y H1 => td σ H1 fun x H2 => ∃ a o, x = .ref a ∧ DGet H2 a y o ∧ Q (.bl (!o.isSome)) H2
noncomputable def sDPut (td ty tv : TE) : TS := fun D σ H => tv σ H fun v H1 => td σ H1 fun x H2 => ty σ H2 fun y H3 => ∃ a H4, x = .ref a ∧ DPut H3 a y v H4 ∧ D.nx σ H4

section
variable {X : Cx} {o i e value : Expr} {pos pos' tpos : Pos} {td ty tv : TE}
theorem pe_dget (hu : X.A.units + 1 < cLine) (ho : PE X o td) (hi : PE X i ty) (hs : NoSl i) : PE X (.Subscript o i pos) (tDGet td ty) := by
  intro pins s σ H Q I h
  refine subD_of PySem.F.slot_dict_getitem.lookup hs (thn (ho pins s σ H _ I h) fun u s1 ⟨x, H1, I1, rx, q1⟩ => thn (hi pins s1 σ H1 _ I1 q1) ?_)
  rintro iv s2 ⟨y, H2, I2, ry, a, v, ex, g, q2⟩
  subst ex
  obtain rfl : u = Value.ref a := rx
  exact ⟨dict_typeIs I2 g, d_getItem hu I2 g ry fun w' s3 I3 rw' => ⟨v, H2, I3, rw', q2⟩⟩
theorem pc_din (hu : X.A.units + 1 < cLine) (hi : PE X i ty) (ho : PE X o td) : PC X .In i o (tDIn ty td) := by
  intro pins s σ H Q I h
  refine thn (hi pins s σ H _ I h) fun iv s1 ⟨y, H1, I1, ry, q1⟩ => thn (ho pins s1 σ H1 _ I1 q1) ?_
  rintro u s2 ⟨x, H2, I2, rx, a, ov, ex, g, q2⟩
  subst ex
  obtain rfl : u = Value.ref a := rx
  exact d_in hu I2 g ry fun s3 I3 => ⟨.bl ov.isSome, H2, I3, rfl, q2⟩
theorem pc_dnotin (hu : X.A.units + 1 < cLine) (hi : PE X i ty) (ho : PE X o td) : PC X .NotIn i o (tDNotIn ty td) := by
  intro pins s σ H Q I h
  refine thn (hi pins s σ H _ I h) fun iv s1 ⟨y, H1, I1, ry, q1⟩ => thn (ho pins s1 σ H1 _ I1 q1) ?_
  rintro u s2 ⟨x, H2, I2, rx, a, ov, ex, g, q2⟩
  subst ex
  obtain rfl : u = Value.ref a := rx
  exact d_notIn hu I2 g ry fun s3 I3 => ⟨.bl (!ov.isSome), H2, I3, rfl, q2⟩
theorem ps_dput (hu : X.A.units + 1 < cLine) (ho : PE X o td) (hi : PE X i ty) (hv : PE X value tv) (hs : swapsWith value (some (.Subscript o i pos')) pos.line X.env = pure false) :
    PS X (.Assign [.Subscript o i pos'] value pos) (sDPut td ty tv) := by
  intro pins s σ H D I h
  refine wpAny_Assign_Subscript (thn (hv pins s σ H _ I h) fun r s1 ⟨v, H1, I1, rv, q1⟩ => thn (ho pins s1 σ H1 _ I1 q1) fun u s2 ⟨x, H2, I2, rx, q2⟩ => thn (hi pins s2 σ H2 _ I2 q2) ?_) hs
  rintro iv s3 ⟨y, H3, I3, ry, a, H4, ex, g, q3⟩
  subst ex
  obtain rfl : u = Value.ref a := rx
  exact d_setItem hu I3 g ry rv fun s4 I4 => ⟨σ, H4, I4, q3⟩
end

theorem dt_empty {P : Program} {w : World} {H : Hp} (h : Heap) (hb : sysModules < h.objs.size) : ObjOk P w H (h.push { cls := .type "dict", data := .dict #[] }) h.objs.size (.dT []) :=
  ⟨Nat.zero_le _, beq_eq_false_iff_ne.mpr (Ne.symm (Nat.ne_of_lt hb)), [], .nil, _, #[], 0, Heap.get?_push_size _ rfl, ⟨rfl, rfl, rfl⟩, rfl, rfl, List.nodup_nil⟩
noncomputable def tDNewT : TE := fun _ H Q => ∀ p, H p = none → Q (.ref p) (upd H p (.dT []))
section
variable {X : Cx} {pos : Pos}
theorem pe_dnewT : PE X (.Dict [] [] pos) tDNewT := fun pins s σ H Q I h =>
  wpAny_Dict_empty ⟨.ref s.heap.objs.size, _, I.laid (a := s.heap.objs.size) (o := .dT []) (t' := s.toks) (fun _ _ q => Heap.get?_push_of_some _ q) (Nat.le_refl _) (dt_empty s.heap I.big), rfl, h _ (I.hok.fresh (Nat.le_refl _))⟩
end

structure M1 (X : Cx) (o : Expr) (m : Str) (apos : Pos) (e : Expr) (cpos : Pos) : Prop where
  base : attributeBase o m X.env (eval o X.env) = eval o X.env
  few : ((backTo cpos (starEach [e] X.env)).all (fun x => !x.1) && (backToKw cpos (keywordEach [] X.env)).all (fun x => x.1.isSome)
    && decide (([e] : List Expr).length + ([] : List Keyword).length + (if ([] : List Keyword).isEmpty then 0 else 1) < 30)) = true
  line : (apos.endLine == cpos.line) = true
  trees : backTo cpos (starEach [e] X.env) = [(false, eval e X.env)]
structure M2 (X : Cx) (o : Expr) (m : Str) (apos : Pos) (e f : Expr) (cpos : Pos) : Prop where
  base : attributeBase o m X.env (eval o X.env) = eval o X.env
  few : ((backTo cpos (starEach [e, f] X.env)).all (fun x => !x.1) && (backToKw cpos (keywordEach [] X.env)).all (fun x => x.1.isSome)
    && decide (([e, f] : List Expr).length + ([] : List Keyword).length + (if ([] : List Keyword).isEmpty then 0 else 1) < 30)) = true
  line : (apos.endLine == cpos.line) = true
  trees : backTo cpos (starEach [e, f] X.env) = [(false, eval e X.env), (false, eval f X.env)]

noncomputable def IsD (H : Hp) (a : Addr) : Prop := (∃ kvs, Rd H a (.dK kvs)) ∨ ∃ kvs, Rd H a (.dT kvs)
theorem isD_at {X : Cx} {pins : List (Addr × Obj)} {σ : St} {H : Hp} {s : Shared} {a : Addr} (I : Inv X pins σ H s) (d : IsD H a) :
    s.TypeIs (.ref a) "dict" ∧ (∀ b, Value.ref a = .ref b → ∃ ob, s.heap.get? b = some ob ∧ ob.dict = none) ∧ (a == sysModules) = false := by
  rcases d with ⟨kvs, e⟩ | ⟨kvs, e⟩
  · obtain ⟨_, hd, vs, _, dd⟩ := dk_rd I.hok e
    refine ⟨dd.typeIs, fun b q => ?_, hd⟩
    cases q
    obtain ⟨ob, _, _, h1, h2, _⟩ := dd
    exact ⟨ob, h1, h2.2.1⟩
  · obtain ⟨_, hd, xs, _, dd⟩ := dt_rd I.hok e
    refine ⟨dd.typeIs, fun b q => ?_, hd⟩
    cases q
    obtain ⟨ob, _, _, h1, h2, _⟩ := dd
    exact ⟨ob, h1, h2.2.1⟩

section
variable {X : Cx} {pins : List (Addr × Obj)} {σ : St} {H : Hp} {s : Shared} {a : Addr} {y d : V} {u r : Value} {o : Option V} {A : Around} {E : Value → Shared → Prop}
theorem d_get2 {Q : Value → Shared → Prop} (hu : A.units + 1 < cLine) (I : Inv X pins σ H s) (g : DGet H a y o) (ry : RelV y u) (rd : RelV d r) (h : ∀ w' s', Inv X pins σ H s' → RelV (o.getD d) w' → Q w' s') :
    wpAny (model X.prog X.w) A (call (.builtin "dict.get") [.ref a, u, r]) Q E s := by
  rcases g with ⟨kvs, k, e, ey, l⟩ | ⟨kvs, k, b, e, ey, eb, l⟩
  · subst ey
    obtain ⟨z, hd, vs, rel, dd⟩ := dk_rd I.hok e
    refine call_meetsIn PySem.F.slot_dict_get dd.typeIs PySem.F.entry_dict_get (PySem.F.args_dict_get_3 _ _ _) (meets_dict_get_default (mixKind X.prog X.w) a (kV_is ry) hd r) ⟨_, dd.mapOf, h _ _ (I.tok _) ?_⟩
    rw [l]
    exact (rel.val k).getD rd
  · subst ey
    cases (show u = Value.ref b from ry)
    obtain ⟨z, hd, xs, rel, dd⟩ := dt_rd I.hok e
    refine call_meetsIn PySem.F.slot_dict_get dd.typeIs PySem.F.entry_dict_get (PySem.F.args_dict_get_3 _ _ _) (meetsH_dict_get_default (tupleKind (mixKind X.prog X.w)) a b hd r) ⟨tupleKind_room_in1 hu, k, xs, key_of I.hok eb, dd, h _ _ (I.tok _) ?_⟩
    rw [l]
    exact (rel.val k).getD rd
end

noncomputable def tDGet2 (td ty tx : TE) : TE := fun σ H Q => td σ H fun x H1 => ∃ a, x = .ref a ∧ IsD H1 a ∧ ty σ H1 fun y H2 => tx σ H2 fun z H3 => ∃ o, DGet H3 a y o ∧ Q (o.getD z) H3
section
variable {X : Cx} {o e f : Expr} {apos cpos : Pos} {td ty tx : TE}
theorem pe_dget2 (hu : X.A.units + 1 < cLine) (ho : PE X o td) (he : PE X e ty) (hf : PE X f tx) (m : M2 X o "get" apos e f cpos) : PE X (.Call (.Attribute o "get" apos) [e, f] [] cpos) (tDGet2 td ty tx) := by
  intro pins s σ H Q I h
  refine wpAny_Call_method m.base m.few m.line PySem.F.plainAttrs_dict PySem.F.slot_dict_get PySem.F.type_dict_get (thn (ho pins s σ H _ I h) ?_)
  rintro u s1 ⟨x, H1, I1, rx, a, ex, d, q1⟩
  subst ex
  obtain rfl : u = Value.ref a := rx
  obtain ⟨t1, t2, _⟩ := isD_at I1 d
  refine ⟨t1, t2, ?_⟩
  rw [m.trees]
  refine Calls.callWith_builtin rfl (Calls.evalArgs_plain (Calls.spliced_cons (thn (he pins s1 σ H1 _ I1 q1) fun iv s2 ⟨y, H2, I2, ry, q2⟩ =>
    Calls.spliced_cons (thn (hf pins s2 σ H2 _ I2 q2) fun fv s3 ⟨z, H3, I3, rz, ov, g, q3⟩ => Calls.spliced_nil ?_))))
  exact d_get2 hu I3 g ry rz fun w' s4 I4 rw' => ⟨_, H3, I4, rw', q3⟩
end

section
variable {X : Cx} {pins : List (Addr × Obj)} {σ : St} {H : Hp} {s : Shared} {a : Addr} {kvs : List (Key × V)} {A : Around} {E : Value → Shared → Prop}
end

section
variable {X : Cx} {pins : List (Addr × Obj)} {σ : St} {H : Hp} {s : Shared} {a : Addr} {y : V} {u : Value} {A : Around} {E : Value → Shared → Prop}
end
end L2
namespace HT
open PySem PyProof.Rows

noncomputable def lexLt : List Int → List Int → Bool
  | [], [] => false
  | [], _ :: _ => true
  | _ :: _, [] => false
  | x :: xs, y :: ys => if x = y then lexLt xs ys else decide (x < y)
theorem lexLt_cons (x y : Int) (xs ys : List Int) : lexLt (x :: xs) (y :: ys) = if x = y then lexLt xs ys else decide (x < y) := rfl
theorem lexLt_nil_nil : lexLt [] [] = false := rfl
theorem lexLt_nil_cons (y : Int) (ys : List Int) : lexLt [] (y :: ys) = true := rfl
theorem lexLt_cons_nil (x : Int) (xs : List Int) : lexLt (x :: xs) [] = false := rfl

theorem eqAt_int (A : Around) (s : Shared) (a : Int) (t : Tok) (c : Int) (u : Tok) : ∃ e, SeqAt.EqAt A s (.int a t) (.int c u) e ∧ (e = true ↔ a = c) :=
  ⟨(a == c), SeqAt.EqAt.int_int a t c u, by simp⟩
theorem rcLt_int (A : Around) (s : Shared) (a : Int) (t : Tok) (c : Int) (u : Tok) (prog : Program) (w : World) (E : Value → Shared → Prop) (Q : Value → Shared → Prop) (h : Q (.bool (decide (a < c))) s) :
    wpAny (model prog w) A (richCompare .Lt (.int a t) (.int c u)) Q E s :=
  (PyProof.Rows.lt_int h : wpAny (model prog w) A (compareOp .Lt (.int a t) (.int c u)) Q E s)

section
open PySem.SeqAt
open PySem.AutoSeq1 (wpAny_loadPart')
open PySem.MeetsSeq PySem.MeetsSeq2 PySem.MeetsSeq3

theorem tuple_lt_ints (l b : Addr) (items items2 : Array Value) (n n2 : Nat) (dd dd2 : Option Addr) (sl sl2 : Array (Option Value)) (ns ms : List Int) (hi : IntsAre items.toList ns) (hj : IntsAre items2.toList ms) :
    Meets (Builtin.«tuple.__lt__» ⟨[.ref l, .ref b], []⟩)
      (fun _ R s => s.heap.get? l = some { cls := .type "tuple", dict := dd, data := .seq items n, slots := sl } ∧ s.heap.get? b = some { cls := .type "tuple", dict := dd2, data := .seq items2 n2, slots := sl2 } ∧
        R (.ok (.ret (.bool (lexLt ns ms)))) s) :=
  .of_wp fun prog w A R s h => by
    obtain ⟨hp, g, d, tk, os⟩ := s; obtain ⟨hl, hb, h⟩ := h
    have f2 := AutoSeq1.sub_tuple_tuple
    have z1 : items.size = ns.length := by rw [← hi.length]; simp
    have z2 : items2.size = ms.length := by rw [← hj.length]; simp
    wp_walk using wpAny_loadPart' hl, wpAny_loadPart' hb, wpAny_forIn_list _ (fun rest b s' => b.1 = none ∧ s' = ⟨hp, g, d, tk, os⟩ ∧ ∃ (vs ws : List Value) (ns' ms' : List Int), rest = vs.zip ws ∧
      IntsAre vs ns' ∧ IntsAre ws ms' ∧ ns'.length + items2.size = ms'.length + items.size ∧ R (.ok (.ret (.bool (lexLt ns' ms')))) ⟨hp, g, d, tk, os⟩) _
    case turn =>
      rintro ⟨y, x⟩ rest b s' ⟨hb', rfl, vs, ws, ns', ms', hz, hvi, hwi, hlen, hR⟩
      cases hvi with
      | nil => rw [List.zip_nil_left] at hz; cases hz
      | cons a t hvi' =>
        cases hwi with
        | nil => rw [List.zip_nil_right] at hz; cases hz
        | cons c u hwi' =>
          rw [List.zip_cons_cons] at hz
          injection hz with hyx hrest
          injection hyx with hy hx
          subst hy hx
          rw [lexLt_cons] at hR
          simp only [List.length_cons] at hlen
          obtain ⟨e, he, hiff⟩ := eqAt_int A.in1 ⟨hp, g, d, tk, os⟩ a t c u
          refine wpAny_bind (he prog w _ _ ?_)
          cases e with
          | true =>
            rw [if_pos (hiff.mp rfl)] at hR
            wp_walk
            exact ⟨rfl, rfl, _, _, _, _, hrest, hvi', hwi', by omega, hR⟩
          | false =>
            rw [if_neg (fun q => absurd (hiff.mpr q) Bool.false_ne_true)] at hR
            have hri := rcLt_int A.in1 ⟨hp, g, d, tk, os⟩ a t c u prog w
            wp_walk using hri
            exact ⟨_, rfl, by simpa using hR⟩
    case fin =>
      rintro ⟨b1, b2⟩ s' ⟨hb', rfl, vs, ws, ns', ms', hz, hvi, hwi, hlen, hR⟩
      simp only at hb'
      subst hb'
      have hv : lexLt ns' ms' = decide (items.size < items2.size) := by
        cases hvi with
        | nil =>
          cases hwi with
          | nil =>
            simp only [List.length_nil] at hlen
            rw [lexLt_nil_nil]
            exact (decide_eq_false (by omega)).symm
          | cons c u hw =>
            simp only [List.length_nil, List.length_cons] at hlen
            rw [lexLt_nil_cons]
            exact (decide_eq_true (by omega)).symm
        | cons a t hv =>
          cases hwi with
          | nil =>
            simp only [List.length_nil, List.length_cons] at hlen
            rw [lexLt_cons_nil]
            exact (decide_eq_false (by omega)).symm
          | cons c u hw =>
            rw [List.zip_cons_cons] at hz
            cases hz
      rw [hv] at hR
      wp_walk
      exact ⟨_, rfl, by simpa [Builtin.Tuple.tupleCompareSizes] using hR⟩
    case h =>
      exact ⟨rfl, rfl, items.toList, items2.toList, ns, ms, rfl, hi, hj, by omega, h⟩
end

section
variable {prog : Program} {w : World} {A : Around} {E : Value → Shared → Prop} {s : Shared}

theorem lt_tupInts {l b : Addr} {items items2 : Array Value} {ns ms : List Int} {Q : Value → Shared → Prop} (hl : IsTup s.heap l items) (hb : IsTup s.heap b items2) (hi : IntsAre items.toList ns) (hj : IntsAre items2.toList ms)
    (hu : A.units < cLine) (h : Q (.bool (lexLt ns ms)) s) : wpAny (model prog w) A (compareOp .Lt (.ref l) (.ref b)) Q E s := by
  obtain ⟨⟨cls, dd, data, sl⟩, ho, hc, n, hd⟩ := id hl
  obtain ⟨⟨cls2, dd2, data2, sl2⟩, ho2, hc2, n2, hd2⟩ := id hb
  simp only at hc hd hc2 hd2
  subst hc hd hc2 hd2
  exact richCompare_meets_room (op := .Lt) ⟨_, ho, rfl⟩ ⟨_, ho2, rfl⟩ PySem.F.slot_tuple_lt PySem.F.entry_tuple_lt (PySem.F.args_tuple_lt_2 _ _) (tuple_lt_ints l b items items2 n n2 dd dd2 sl sl2 ns ms hi hj)
    ⟨ho, ho2, show Value.bool (lexLt ns ms) ≠ Value.notImplemented ∧ Q (.bool (lexLt ns ms)) s from ⟨(fun x => nomatch x), h⟩⟩ hu

noncomputable def sIx (n d : Nat) : Option Int → Nat
  | none => d
  | some v => if v < 0 then (v + (n : Int)).toNat else min v.toNat n
theorem sIx_none (n d : Nat) : sIx n d none = d := rfl
theorem sIx_nat (n d k : Nat) : sIx n d (some (k : Int)) = min k n := by
  show (if (k : Int) < 0 then ((k : Int) + (n : Int)).toNat else min (k : Int).toNat n) = min k n
  rw [if_neg (by omega), Int.toNat_natCast]
theorem sIx_le (n d : Nat) (hd : d ≤ n) (o : Option Int) : sIx n d o ≤ n := by
  cases o with
  | none => exact hd
  | some v =>
    show (if v < 0 then (v + (n : Int)).toNat else min v.toNat n) ≤ n
    by_cases hv : v < 0
    · rw [if_pos hv]; omega
    · rw [if_neg hv]; exact Nat.min_le_right _ _
theorem clip_eq (v : Int) (n d : Nat) : (if v < 0 then max (v + (n : Int)) 0 else min v (n : Int)) = ((sIx n d (some v) : Nat) : Int) := by
  show (if v < 0 then max (v + (n : Int)) 0 else min v (n : Int)) = (((if v < 0 then (v + (n : Int)).toNat else min v.toNat n) : Nat) : Int)
  by_cases hv : v < 0
  · simp only [if_pos hv]; omega
  · simp only [if_neg hv]; omega
theorem adjust_gen (lo hi : Option Int) (n : Nat) : Builtin.Slice.sliceAdjust lo hi 1 (n : Int) = (((sIx n 0 lo : Nat) : Int), ((sIx n n hi : Nat) : Int)) := by
  have h1 : ¬ ((1 : Int) < 0) := by omega
  unfold Builtin.Slice.sliceAdjust
  simp only [h1, if_false]
  refine Prod.ext ?_ ?_
  · cases lo with
    | none => rfl
    | some v => exact clip_eq v n 0
  · cases hi with
    | none => rfl
    | some v => exact clip_eq v n n
theorem places_gen (i j : Nat) : Builtin.Slice.slicePlaces (i : Int) (j : Int) 1 = j - i := by
  unfold Builtin.Slice.slicePlaces
  have h1 : (1 : Int) > 0 := by omega
  simp only [h1, if_true, Int.ediv_one]
  split <;> omega
theorem slicePart_ {v : Value} {o : Option Int} {Q : Option Int → Shared → Prop} (p : IsPart v o) (h : Q o s) : wpAny (model prog w) A (Builtin.Slice.slicePartIndex v) Q E s := by
  cases p with
  | none => exact slicePart_none h
  | int i t => exact slicePart_int h
theorem sliceApplied_gen {sl : Addr} {vl vu : Value} {lo hi : Option Int} {n : Nat} {Q : Int × Int × Nat → Shared → Prop} (hs : s.heap.IsSliceOf sl vl vu .none) (pl : IsPart vl lo) (pu : IsPart vu hi)
    (h : Q (((sIx n 0 lo : Nat) : Int), 1, sIx n n hi - sIx n 0 lo) s) : wpAny (model prog w) A (Builtin.Slice.sliceApplied (.ref sl) (pure (n : Int))) Q E s := by
  obtain ⟨os, hos, hcs, hds⟩ := id hs
  unfold Builtin.Slice.sliceApplied Builtin.Slice.sliceFields
  refine wpAny_bind (wpAny_bind (wpAny_field hos hds (x := vl) rfl (wpAny_bind (wpAny_field hos hds (x := vu) rfl (wpAny_bind (wpAny_field hos hds (x := .none) rfl (wpAny_pure ?_)))))))
  refine wpAny_bind (slicePart_none ?_)
  show wpAny _ _ (if ((1 : Int) == 0) = true then _ else _) _ _ s
  rw [if_neg (by decide)]
  refine wpAny_bind (slicePart_ pl (wpAny_bind (slicePart_ pu (wpAny_bind (wpAny_pure ?_)))))
  show wpAny _ _ (match Builtin.Slice.sliceAdjust lo hi 1 (n : Int) with | (lo, hi) => pure (lo, (1 : Int), Builtin.Slice.slicePlaces lo hi 1)) _ _ s
  rw [adjust_gen lo hi n]
  show wpAny _ _ (pure (((sIx n 0 lo : Nat) : Int), (1 : Int), Builtin.Slice.slicePlaces ((sIx n 0 lo : Nat) : Int) ((sIx n n hi : Nat) : Int) 1)) _ _ s
  rw [places_gen]
  exact wpAny_pure h
theorem pick_gen (xs : Array Value) (i k : Nat) : ((List.range k).filterMap fun (m : Nat) => xs[((i : Int) + (m : Int) * 1).toNat]?).toArray = ((xs.toList.drop i).take k).toArray := by
  have e : (fun (m : Nat) => xs[((i : Int) + (m : Int) * 1).toNat]?) = fun m => xs[i + m]? := by
    funext m
    have : ((i : Int) + (m : Int) * 1).toNat = i + m := by omega
    rw [this]
  rw [e]
  have := pick_run xs i k
  rw [List.filterMap_map] at this
  have e2 : ((fun x => xs[x]?) ∘ fun x => i + x) = fun m => xs[i + m]? := rfl
  rw [e2] at this
  rw [this]

theorem getItem_tuple_cut {t sl : Addr} {items : Array Value} {vl vu : Value} {lo hi : Option Int} {Q : Value → Shared → Prop} (ht : IsTup s.heap t items) (hs : s.heap.IsSliceOf sl vl vu .none) (pl : IsPart vl lo) (pu : IsPart vu hi)
    (hw : ¬ (sIx items.size 0 lo = 0 ∧ sIx items.size items.size hi = items.size))
    (h : Q (.ref s.heap.objs.size) { s with heap := s.heap.push { cls := .type "tuple", data := .seq ((items.toList.drop (sIx items.size 0 lo)).take (sIx items.size items.size hi - sIx items.size 0 lo)).toArray } })
    (hsz : items.size ≤ sizeLine) : wpAny (model prog w) A (getItem (.ref t) (.ref sl)) Q E s := by
  have htake : sizeOk (.seq ((items.toList.drop (sIx items.size 0 lo)).take (sIx items.size items.size hi - sIx items.size 0 lo)).toArray) := by
    show ((items.toList.drop (sIx items.size 0 lo)).take (sIx items.size items.size hi - sIx items.size 0 lo)).toArray.size ≤ sizeLine
    rw [List.size_toArray, List.length_take, List.length_drop, Array.length_toList]
    omega (config := {})
  have hj : sIx items.size items.size hi ≤ items.size := sIx_le _ _ (Nat.le_refl _) hi
  obtain ⟨os, hos, hcs, hds⟩ := id hs
  have hTs : s.TypeIs (.ref sl) "slice" := ⟨os, hos, hcs⟩
  unfold getItem
  try with_reducible refine wpAny_holding ?_
  first | refine wpAny_bind (wpAny_pure ?_) | skip
  refine wpAny_bind (wpAny_sequenceKey ht.typeIs (by decide) ?_)
  refine wpAny_bind (wpAny_callSpecial?_slot (name := Str.ofString "__getitem__") ht.typeIs PyProof.Rows.slot_tuple_getitem
    (wpAny_call_entry PyProof.Rows.slot_tuple_getitem ht.typeIs entry_tuple_getitem ?_ (args_tuple_getitem _ _)))
  show wpAny _ _ (Builtin.Tuple.tupleItemsOf (.ref t) >>= _) _ _ s
  refine wpAny_bind (tupleItemsOf_ ht ?_)
  refine wpAny_bind (wpAny_typeOf hTs ?_)
  rw [if_pos (by decide)]
  refine wpAny_bind (sliceApplied_gen hs pl pu ?_)
  have hno : ¬ ((((sIx items.size 0 lo : Nat) : Int) == 0 && (1 : Int) == 1 && (sIx items.size items.size hi - sIx items.size 0 lo) == items.size) = true) := by
    intro q
    rw [Bool.and_eq_true, Bool.and_eq_true] at q
    have q1 : ((sIx items.size 0 lo : Nat) : Int) = 0 := eq_of_beq q.1.1
    have q2 : sIx items.size items.size hi - sIx items.size 0 lo = items.size := eq_of_beq q.2
    exact hw ⟨by omega (config := {}), by omega (config := {})⟩
  show wpAny _ _ (if (((sIx items.size 0 lo : Nat) : Int) == 0 && (1 : Int) == 1 && (sIx items.size items.size hi - sIx items.size 0 lo) == items.size) = true then _ else _) _ _ s
  rw [if_neg hno, pick_gen]
  first
    | exact wpAny_bind (m := Builtin.Tuple.tupleExact _) (wpAny_newObj_type (wpAny_pure ⟨_, rfl, wpAny_pure h⟩) htake)
    | exact wpAny_bind (m := Builtin.Tuple.tupleExact _) (wpAny_newObj_type (wpAny_bind (wpAny_pure (wpAny_pure ⟨_, rfl, wpAny_pure h⟩))) htake)
    | exact wpAny_bind (wpAny_bind (m := Builtin.Tuple.tupleExact _) (wpAny_newObj_type (wpAny_pure (wpAny_pure ⟨_, rfl, wpAny_pure h⟩)) htake))
    | exact wpAny_bind (wpAny_bind (m := Builtin.Tuple.tupleExact _) (wpAny_newObj_type (wpAny_pure ⟨_, rfl, wpAny_pure h⟩) htake))
end
end HT

namespace L2
open PySem PySem.Spec PyProof.Rows

noncomputable abbrev TO := St → Hp → (Option Int → Hp → Prop) → Prop
noncomputable def PO (X : Cx) (e : Option Expr) (t : TO) : Prop :=
  ∀ (pins : List (Addr × Obj)) (s : Shared) (σ : St) (H : Hp) (Q : Option Int → Hp → Prop), Inv X pins σ H s → t σ H Q →
    wpAny (model X.prog X.w) X.A (evalPart e X.env) (fun u s' => ∃ o H', Inv X pins σ H' s' ∧ IsPart u o ∧ Q o H') X.xe s
noncomputable def tNoPart : TO := fun _ H Q => Q none H
noncomputable def tPart (t : TE) : TO := fun σ H Q => t σ H fun x H1 => ∃ i, x = .int i ∧ Q (some i) H1

theorem intsAre_of {ns : List Int} : ∀ {us : List Value}, Vals (ns.map V.int) us → IntsAre us ns := by
  induction ns with
  | nil => intro us r; rw [List.map_nil] at r; cases r; exact .nil
  | cons n ns ih =>
    intro us r
    rw [List.map_cons] at r
    cases r with
    | cons r1 r2 =>
      obtain ⟨t, e⟩ := r1
      subst e
      exact .cons n t (ih r2)

section
variable {X : Cx} {e : Expr} {te : TE} {lo hi : Option Expr} {tl th : TO} {pos p2 : Pos}

theorem po_none : PO X none tNoPart := by
  intro pins s σ H Q I h
  rw [evalPart_none]
  exact wpAny_pure ⟨none, H, I, .none, h⟩
theorem po_some (h : PE X e te) : PO X (some e) (tPart te) := by
  intro pins s σ H Q I hw
  rw [evalPart_some]
  refine thn (h pins s σ H _ I hw) ?_
  rintro u s1 ⟨x, H1, I1, r1, q1⟩
  obtain ⟨i, rfl, q⟩ := q1
  obtain ⟨t, rfl⟩ := r1
  exact ⟨some i, H1, I1, .int i t, q⟩

noncomputable def SlR (X : Cx) (r : V → Option Int → Option Int → Hp → VK → Prop) : Prop :=
  ∀ (pins : List (Addr × Obj)) (s : Shared) (σ : St) (H : Hp) (x : V) (v vl vu : Value) (lo hi : Option Int) (sl : Addr) (Q : VK), Inv X pins σ H s → RelV x v → s.heap.IsSliceOf sl vl vu .none → IsPart vl lo → IsPart vu hi → r x lo hi H Q →
    ∃ T id, typeLookup (.type T) "__getitem__" = pure (some (.builtin id)) ∧ s.TypeIs v T ∧ wpAny (model X.prog X.w) X.A (getItem v (.ref sl)) (EP X pins σ Q) X.xe s
theorem SlR.or {r r' : V → Option Int → Option Int → Hp → VK → Prop} (h : SlR X r) (h' : SlR X r') : SlR X (fun x lo hi H Q => r x lo hi H Q ∨ r' x lo hi H Q) := by
  intro pins s σ H x v vl vu lo hi sl Q I rx hs pl pu q
  rcases q with q | q
  · exact h pins s σ H x v vl vu lo hi sl Q I rx hs pl pu q
  · exact h' pins s σ H x v vl vu lo hi sl Q I rx hs pl pu q
noncomputable def tSl (r : V → Option Int → Option Int → Hp → VK → Prop) (te : TE) (tl th : TO) : TE := fun σ H Q => te σ H fun x H1 => tl σ H1 fun l H2 => th σ H2 fun u H3 => r x l u H3 Q
theorem pe_slice {r : V → Option Int → Option Int → Hp → VK → Prop} (hr : SlR X r) (he : PE X e te) (hl : PO X lo tl) (hu : PO X hi th) : PE X (.Subscript e (.Slice lo hi none p2) pos) (tSl r te tl th) := by
  intro pins s σ H Q I h
  refine Subscript_ (thn (he pins s σ H _ I h) ?_)
  rintro v s1 ⟨x, H1, I1, r1, q1⟩
  refine wpAny_Slice (thn (hl pins s1 σ H1 _ I1 q1) fun vl s2 ⟨l, H2, I2, pl, q2⟩ => thn (hu pins s2 σ H2 _ I2 q2) ?_)
  rintro vu s3 ⟨u, H3, I3, pu, q3⟩
  rw [evalPart_none]
  refine wpAny_pure ?_
  have I4 : Inv X pins σ H3 { s3 with heap := s3.heap.push { cls := .type "slice", data := .fields #[vl, vu, .none] } } := I3.kept (t' := s3.toks) fun b ob q => Heap.get?_push_of_some _ q
  obtain ⟨T, id, hT, ht, hg⟩ := hr pins { s3 with heap := s3.heap.push { cls := .type "slice", data := .fields #[vl, vu, .none] } } σ H3 x v vl vu l u s3.heap.objs.size Q I4 r1 (Heap.IsSliceOf.new ..) pl pu q3
  show wpAny (model X.prog X.w) X.A (subscriptTail e (.Slice lo hi none p2) v (.ref s3.heap.objs.size)) (EP X pins σ Q) X.xe { s3 with heap := s3.heap.push { cls := .type "slice", data := .fields #[vl, vu, .none] } }
  exact tail_any (ops := [.ref s3.heap.objs.size, v]) ht hT hg (by with_unfolding_all rfl)

noncomputable def cutV (xs : List V) (lo hi : Option Int) : List V := (xs.drop (HT.sIx xs.length 0 lo)).take (HT.sIx xs.length xs.length hi - HT.sIx xs.length 0 lo)
theorem cutV_length (xs : List V) (lo hi : Option Int) : (cutV xs lo hi).length ≤ xs.length := by
  unfold cutV
  rw [List.length_take, List.length_drop]
  omega
noncomputable def rSlT (K : PySem.W.Frag) : V → Option Int → Option Int → Hp → VK → Prop := fun x lo hi H Q => ∃ a xs, x = .ref a ∧ SqT K H a xs ∧
  ¬ (HT.sIx xs.length 0 lo = 0 ∧ HT.sIx xs.length xs.length hi = xs.length) ∧ ∀ p, H p = none → Q (.ref p) (upd H p (.tup (cutV xs lo hi)))
theorem sl_tup : SlR X (rSlT X.K) := by
  intro pins s σ H x v vl vu lo hi sl Q I rx hs pl pu h
  obtain ⟨a, xs, rfl, hx, hw, q⟩ := h
  cases rx
  obtain ⟨its, r, ht, hz⟩ := I.tuple hx
  have hlen : its.toArray.size = xs.length := by rw [List.size_toArray]; exact r.length.symm
  refine ⟨"tuple", _, PyProof.Rows.slot_tuple_getitem.lookup, ht.typeIs, ?_⟩
  refine HT.getItem_tuple_cut ht hs pl pu (by rw [hlen]; exact hw) ?_ (by rw [hlen]; exact hz)
  rw [hlen]
  refine ⟨.ref s.heap.objs.size, _, I.laid (t' := s.toks) (o := .tup (cutV xs lo hi)) (fun b ob q => Heap.get?_push_of_some _ q) (Nat.le_refl _) ?_, rfl, q _ (I.hok.fresh (Nat.le_refl _))⟩
  exact ⟨Nat.le_trans (cutV_length xs lo hi) hz, _, (r.drop (HT.sIx xs.length 0 lo)).take (HT.sIx xs.length xs.length hi - HT.sIx xs.length 0 lo), IsTup.new _ _⟩

noncomputable def rLtT (K : PySem.W.Frag) : R2 := fun x y H Q => ∃ a b ns ms, x = .ref a ∧ y = .ref b ∧ SqT K H a (ns.map V.int) ∧ SqT K H b (ms.map V.int) ∧ Q (.bl (HT.lexLt ns ms)) H
theorem op_ltT (hu : X.A.units < cLine) : OpR X (compareOp .Lt) (rLtT X.K) := by
  intro pins s σ H x y v u Q I rx ry h
  obtain ⟨a, b, ns, ms, rfl, rfl, ha, hb, q⟩ := h
  cases rx
  cases ry
  obtain ⟨its, r1, p1, _⟩ := I.tuple ha
  obtain ⟨its2, r2, p2, _⟩ := I.tuple hb
  have i1 : IntsAre its.toArray.toList ns := intsAre_of r1
  have i2 : IntsAre its2.toArray.toList ms := intsAre_of r2
  exact HT.lt_tupInts p1 p2 i1 i2 hu ⟨.bl (HT.lexLt ns ms), H, I, rfl, q⟩
end
end L2

namespace L2
open PySem PySem.Spec PyProof.Rows

noncomputable def ixN (n : Nat) (i : Int) : Option Nat := if 0 ≤ i then (if i < n then some i.toNat else none) else if -(n : Int) ≤ i then some (i + n).toNat else none
noncomputable def atI {α : Type} (xs : List α) (i : Int) : Option α := (ixN xs.length i).bind fun j => xs[j]?
theorem ixN_seq {n : Nat} {i : Int} {j : Nat} (h : ixN n i = some j) : seqIndex? i n = some j ∧ j < n ∧ -(n : Int) ≤ i ∧ i < n := by
  unfold ixN at h
  by_cases h0 : 0 ≤ i
  · rw [if_pos h0] at h
    by_cases h1 : i < n
    · rw [if_pos h1] at h
      have e : i.toNat = j := Option.some.inj h
      exact ⟨by rw [seqIndex_of h0 h1, e], by omega, by omega, h1⟩
    · rw [if_neg h1] at h; cases h
  · rw [if_neg h0] at h
    by_cases h1 : -(n : Int) ≤ i
    · rw [if_pos h1] at h
      have e : (i + n).toNat = j := Option.some.inj h
      exact ⟨by rw [seqIndex_neg (by omega) h1, e], by omega, h1, by omega⟩
    · rw [if_neg h1] at h; cases h
theorem atI_get {α : Type} {xs : List α} {i : Int} {v : α} (h : atI xs i = some v) : ∃ j, seqIndex? i xs.length = some j ∧ xs[j]? = some v ∧ j < xs.length ∧ -(xs.length : Int) ≤ i ∧ i < xs.length := by
  unfold atI at h
  cases e : ixN xs.length i with
  | none => rw [e] at h; cases h
  | some j =>
    rw [e] at h
    obtain ⟨h1, h2, h3, h4⟩ := ixN_seq e
    exact ⟨j, h1, h, h2, h3, h4⟩
theorem atI_nat {α : Type} {xs : List α} {j : Nat} {v : α} (h : xs[j]? = some v) : atI xs (j : Int) = some v := by
  have hj : j < xs.length := (List.getElem?_eq_some_iff.mp h).1
  have e : ixN xs.length (j : Int) = some j := by
    unfold ixN
    rw [if_pos (by omega), if_pos (by omega)]; simp
  unfold atI; rw [e]; exact h

noncomputable def PlainIx (b : Expr) : Prop := ∀ o i, subscripted b false o i = operate [o, i] (getItem o i)
noncomputable def IxR (X : Cx) (r : R2) : Prop :=
  ∀ (value slice : Expr) (pins : List (Addr × Obj)) (s : Shared) (σ : St) (H : Hp) (x y : V) (v u : Value) (Q : VK), Inv X pins σ H s → RelV x v → RelV y u → r x y H Q →
    subscripted slice false v u = operate [v, u] (getItem v u) → wpAny (model X.prog X.w) X.A (subscriptTail value slice v u) (EP X pins σ Q) X.xe s
noncomputable def MtR (X : Cx) (id : String) (r : V → List V → Hp → VK → Prop) : Prop :=
  ∀ (pins : List (Addr × Obj)) (s : Shared) (σ : St) (H : Hp) (x : V) (xs : List V) (v : Value) (us : List Value) (Q : VK), Inv X pins σ H s → RelV x v → Vals xs us → r x xs H Q →
    wpAny (model X.prog X.w) X.A (call (.builtin id) (v :: us)) (EP X pins σ Q) X.xe s
section
variable {X : Cx} {a b : Expr} {ta tb : TE} {pos : Pos}
theorem IxR.or {r r' : R2} (h : IxR X r) (h' : IxR X r') : IxR X (fun x y H Q => r x y H Q ∨ r' x y H Q) := by
  intro value slice pins s σ H x y v u Q I rx ry q hs
  rcases q with q | q
  · exact h value slice pins s σ H x y v u Q I rx ry q hs
  · exact h' value slice pins s σ H x y v u Q I rx ry q hs
theorem pe_ix {r : R2} (hr : IxR X r) (ha : PE X a ta) (hb : PE X b tb) (hs : PlainIx b) : PE X (.Subscript a b pos) (tOp r ta tb) := by
  intro pins s σ H Q I h
  exact Subscript_ (binT ha hb I h fun v u s2 x y H2 I2 rx ry q => hr a b pins s2 σ H2 x y v u Q I2 rx ry q (hs _ _))

noncomputable def rIxL (K : PySem.W.Frag) : R2 := fun x y H Q => ∃ p xs i v, x = .ref p ∧ y = .int i ∧ SqL K H p xs ∧ atI xs i = some v ∧ Q v H
noncomputable def rIxT (K : PySem.W.Frag) : R2 := fun x y H Q => ∃ p xs i v, x = .ref p ∧ y = .int i ∧ SqT K H p xs ∧ atI xs i = some v ∧ Q v H
noncomputable def rIxS : R2 := fun x y H Q => ∃ z i c, x = .str z ∧ y = .int i ∧ z.length ≤ sizeLine ∧ atI z.cps.toList i = some c ∧ Q (.str ⟨#[c]⟩) H
theorem ix_list : IxR X (rIxL X.K) := by
  intro value slice pins s σ H x y v u Q I rx ry h hs
  obtain ⟨p, xs, i, z, rfl, rfl, hq, he, q⟩ := h
  cases rx
  obtain ⟨t, rfl⟩ := ry
  obtain ⟨its, r, pl, hz⟩ := I.list hq
  obtain ⟨j, h1, h2, h3, h4, h5⟩ := atI_get he
  obtain ⟨w, ew, rw'⟩ := r.get h2
  have hl := r.length
  have hn := line63
  have fin : EP X pins σ Q w s := ⟨z, H, I, rw', q⟩
  by_cases h0 : 0 ≤ i
  · have hj : i.toNat = j := by
      rw [seqIndex_of h0 h5] at h1
      exact Option.some.inj h1
    exact item_listR pl.isList h0 (by omega) (by rw [hj]; simpa using ew) fin hs
  · have hj : (i + (its.toArray.size : Int)).toNat = j := by
      rw [seqIndex_neg (by omega) h4] at h1
      rw [List.size_toArray, ← hl]
      exact Option.some.inj h1
    exact subscriptTail_builtinR (x := w) pl.isList.typeIs slot_list_getitem.lookup
      (wpAny_getItem_list_neg (Q := fun r s' => r = w ∧ EP X pins σ Q r s') pl.isList (by omega) (by rw [List.size_toArray] <;> omega) (by omega) (by rw [hj]; simpa using ew) ⟨rfl, fin⟩) hs
theorem ix_tup : IxR X (rIxT X.K) := by
  intro value slice pins s σ H x y v u Q I rx ry h hs
  obtain ⟨p, xs, i, z, rfl, rfl, hq, he, q⟩ := h
  cases rx
  obtain ⟨t, rfl⟩ := ry
  obtain ⟨its, r, pl, hz⟩ := I.tuple hq
  obtain ⟨j, h1, h2, h3, h4, h5⟩ := atI_get he
  obtain ⟨w, ew, rw'⟩ := r.get h2
  have hl := r.length
  have hn := line63
  have fin : EP X pins σ Q w s := ⟨z, H, I, rw', q⟩
  exact subscriptTail_builtinR (x := w) pl.typeIs slot_tuple_getitem.lookup
    (getItem_tuple (j := j) (Q := fun r s' => r = w ∧ EP X pins σ Q r s') pl (by omega) (by omega) (by rw [List.size_toArray, ← hl]; exact h1) (by simpa using ew) ⟨rfl, fin⟩) hs
theorem ix_str : IxR X rIxS := by
  intro value slice pins s σ H x y v u Q I rx ry h hs
  obtain ⟨z, i, c, rfl, rfl, hz, he, q⟩ := h
  obtain ⟨t, rfl⟩ := rx
  obtain ⟨t', rfl⟩ := ry
  obtain ⟨j, h1, h2, h3, h4, h5⟩ := atI_get he
  have hl : z.cps.toList.length = z.length := by simp [Str.length]
  rw [hl] at h1 h4 h5
  have hn := line63
  exact tail_any (typeIs_str s z t) slot_str_getitem.lookup (getItem_str (c := c) (by
    have e1 : decide (i < -(2 ^ 63 : Int)) = false := decide_eq_false (by omega)
    have e2 : decide (i ≥ 2 ^ 63) = false := decide_eq_false (by omega)
    rw [e1, e2, Bool.or_false]) (by rw [h1]; simpa using h2) ⟨.str ⟨#[c]⟩, H, I.tok _, ⟨_, rfl⟩, q⟩) hs
noncomputable def rIx (K : PySem.W.Frag) : R2 := fun x y H Q => rIxL K x y H Q ∨ rIxT K x y H Q ∨ rIxS x y H Q
theorem ix_seq : IxR X (rIx X.K) := ix_list.or (ix_tup.or ix_str)

theorem slice_bounds (lo hi : Option Int) (n : Nat) : (sliceBounds lo hi none n).1 = ((HT.sIx n 0 lo : Nat) : Int) ∧ (sliceBounds lo hi none n).2.1 = ((HT.sIx n n hi : Nat) : Int) ∧ (sliceBounds lo hi none n).2.2 = 1 := by
  refine ⟨?_, ?_, rfl⟩
  · cases lo with
    | none => simp [sliceBounds, HT.sIx]
    | some i =>
      simp only [sliceBounds, HT.sIx, Option.getD_none, show (1 : Int) > 0 by decide, if_true]
      by_cases h : i < 0
      · simp only [h, if_true] <;> omega
      · simp only [h, if_false] <;> omega
  · cases hi with
    | none => simp [sliceBounds, HT.sIx]
    | some i =>
      simp only [sliceBounds, HT.sIx, Option.getD_none, show (1 : Int) > 0 by decide, if_true]
      by_cases h : i < 0
      · simp only [h, if_true] <;> omega
      · simp only [h, if_false] <;> omega
theorem slicePick_cut (its : List Value) (lo hi : Option Int) : slicePick its.toArray lo hi none = ((its.drop (HT.sIx its.length 0 lo)).take (HT.sIx its.length its.length hi - HT.sIx its.length 0 lo)).toArray := by
  obtain ⟨h1, h2, h3⟩ := slice_bounds lo hi its.toArray.size
  unfold slicePick
  rw [h1, h2, h3]
  simp only [sliceRange_one, pick_run, List.size_toArray] <;> rfl
noncomputable def rSlL (K : PySem.W.Frag) : V → Option Int → Option Int → Hp → VK → Prop := fun x lo hi H Q => ∃ a xs, x = .ref a ∧ SqL K H a xs ∧ ∀ p, H p = none → Q (.ref p) (upd H p (.lst (cutV xs lo hi)))
theorem sl_list : SlR X (rSlL X.K) := by
  intro pins s σ H x v vl vu lo hi sl Q I rx hs pl pu h
  obtain ⟨a, xs, rfl, hx, q⟩ := h
  cases rx
  obtain ⟨its, r, ht, hz⟩ := I.list hx
  have hlen := r.length
  refine ⟨"list", _, slot_list_getitem.lookup, ht.isList.typeIs, ?_⟩
  refine wpAny_getItem_list_slice ht.isList hs pl pu .none (by simp) ?_ (by rw [List.size_toArray] <;> omega)
  rw [slicePick_cut, ← hlen]
  refine ⟨.ref s.heap.objs.size, _, I.laid (t' := s.toks) (o := .lst (cutV xs lo hi)) (fun b ob q => Heap.get?_push_of_some _ q) (Nat.le_refl _) ?_, rfl, q _ (I.hok.fresh (Nat.le_refl _))⟩
  exact ⟨Nat.le_trans (cutV_length xs lo hi) hz, _, 0, (r.drop (HT.sIx xs.length 0 lo)).take (HT.sIx xs.length xs.length hi - HT.sIx xs.length 0 lo), Heap.get?_push_size _ rfl⟩

theorem call_len_seq : CallR X (.builtin "len") (fun xs H Q => ∃ p ys, xs = [.ref p] ∧ (SqL X.K H p ys ∨ SqT X.K H p ys) ∧ Q (.int ys.length) H) := by
  intro pins s σ H xs us Q I r h
  obtain ⟨p, ys, rfl, hq, q⟩ := h
  obtain ⟨u, rfl, rx⟩ := vals1 r
  cases rx
  have hn := line63
  rcases hq with hq | hq
  · obtain ⟨its, r', pl, hz⟩ := I.list hq
    have hlen := r'.length
    exact Calls.call_len_list pl.isList (by simp only [List.size_toArray] <;> omega) ⟨.int ys.length, H, I.tok _, ⟨s.toks + 1, by rw [List.size_toArray, hlen]⟩, q⟩
  · obtain ⟨its, r', pl, hz⟩ := I.tuple hq
    have hlen := r'.length
    exact len_tuple pl (by simp only [List.size_toArray] <;> omega) ⟨.int ys.length, H, I.tok _, ⟨s.toks + 1, by rw [List.size_toArray, hlen]⟩, q⟩
theorem call_len_str : CallR X (.builtin "len") (fun xs H Q => ∃ z, xs = [.str z] ∧ z.length ≤ sizeLine ∧ Q (.int z.length) H) := by
  intro pins s σ H xs us Q I r h
  obtain ⟨z, rfl, hz, q⟩ := h
  obtain ⟨u, rfl, t, rfl⟩ := vals1 r
  have hn := line63
  exact len_str (by omega) ⟨.int z.length, H, I.tok _, ⟨_, rfl⟩, q⟩
theorem CallR.or {f : Value} {r r' : List V → Hp → VK → Prop} (h : CallR X f r) (h' : CallR X f r') : CallR X f (fun xs H Q => r xs H Q ∨ r' xs H Q) := by
  intro pins s σ H xs us Q I rs q
  rcases q with q | q
  · exact h pins s σ H xs us Q I rs q
  · exact h' pins s σ H xs us Q I rs q
theorem call_list_of : CallR X (.type "list") (fun xs H Q => ∃ p ys, xs = [.ref p] ∧ (SqL X.K H p ys ∨ SqT X.K H p ys) ∧ ∀ l, H l = none → Q (.ref l) (upd H l (.lst ys))) := by
  intro pins s σ H xs us Q I r h
  obtain ⟨p, ys, rfl, hq, q⟩ := h
  obtain ⟨u, rfl, rx⟩ := vals1 r
  cases rx
  have fin : ∀ (its : List Value), Vals ys its → ys.length ≤ sizeLine → ∀ (h' : Heap) (c' : Nat), (∀ b o', s.heap.get? b = some o' → h'.get? b = some o') →
      h'.get? s.heap.objs.size = some { cls := .type "list", dict := none, data := .seq its.toArray c', slots := #[] } → EP X pins σ Q (.ref s.heap.objs.size) { s with heap := h' } := fun its r' hz h' c' kp e =>
    ⟨.ref s.heap.objs.size, _, I.laid (t' := s.toks) kp (Nat.le_refl _) (show ObjOk X.prog X.w _ h' _ (.lst ys) from ⟨hz, its, c', r', e⟩), rfl, q _ (I.hok.fresh (Nat.le_refl _))⟩
  rcases hq with hq | hq
  · obtain ⟨its, r', pl, hz⟩ := I.list hq
    have hlen := r'.length
    obtain ⟨o, ho, hc, n, hd⟩ := pl.isList
    exact call_list_seq p (.inl rfl) ho hc hd (fun h' c' kp e => fin its r' hz h' c' kp e) (by simp only [List.size_toArray] <;> omega)
  · obtain ⟨its, r', pl, hz⟩ := I.tuple hq
    have hlen := r'.length
    obtain ⟨o, ho, hc, n, hd⟩ := pl
    exact call_list_seq p (.inr rfl) ho hc hd (fun h' c' kp e => fin its r' hz h' c' kp e) (by simp only [List.size_toArray] <;> omega)

noncomputable def tyV (K : PySem.W.Frag) (T : String) (x : V) (H : Hp) : Prop := match x with
  | .str _ => T = "str"
  | .int _ => T = "int"
  | .ref p => (T = "list" ∧ ∃ xs, SqL K H p xs) ∨ (T = "tuple" ∧ ∃ o, K.lookup p = some o ∧ o.cls = .type "tuple" ∧ o.dict = none) ∨
      (T = "dict" ∧ ((∃ kvs, H p = some (.dK kvs)) ∨ ∃ kvs, H p = some (.dT kvs))) ∨ (T = "set" ∧ ∃ S n, H p = some (.set S n))
  | _ => False
theorem tyV_is {pins : List (Addr × Obj)} {σ : St} {H : Hp} {s : Shared} {T : String} {x : V} {v : Value} (I : Inv X pins σ H s) (r : RelV x v) (ty : tyV X.K T x H) :
    s.TypeIs v T ∧ ∀ a, v = .ref a → ∃ ob, s.heap.get? a = some ob ∧ ob.dict = none := by
  cases x with
  | str z =>
    obtain ⟨t, rfl⟩ := r
    cases (show T = "str" from ty)
    exact ⟨typeIs_str s z t, fun _ e => nomatch e⟩
  | int i =>
    obtain ⟨t, rfl⟩ := r
    cases (show T = "int" from ty)
    exact ⟨typeIs_int s i t, fun _ e => nomatch e⟩
  | ref p =>
    cases r
    rcases ty with ⟨rfl, xs, hq⟩ | ⟨rfl, o, hk, hc, hd⟩ | ⟨rfl, hk⟩ | ⟨rfl, S, n, hk⟩
    · obtain ⟨its, _, pl, _⟩ := I.list hq
      refine ⟨pl.isList.typeIs, fun a e => ?_⟩
      cases e
      obtain ⟨o, n, e, c, hd, _⟩ := pl
      exact ⟨o, e, hd⟩
    · refine ⟨⟨o, I.kIn p o hk, hc⟩, fun a e => ?_⟩
      cases e
      exact ⟨o, I.kIn _ o hk, hd⟩
    · have z : ∃ o, s.heap.get? p = some o ∧ o.ExactDict := by
        rcases hk with ⟨kvs, hk⟩ | ⟨kvs, hk⟩
        · obtain ⟨_, _, _, _, o, _, _, e, ex, _⟩ := I.hok p _ hk
          exact ⟨o, e, ex⟩
        · obtain ⟨_, _, _, _, o, _, _, e, ex, _⟩ := I.hok p _ hk
          exact ⟨o, e, ex⟩
      obtain ⟨o, e, ex⟩ := z
      refine ⟨⟨o, e, ex.1⟩, fun a e2 => ?_⟩
      cases e2
      exact ⟨o, e, ex.2.1⟩
    · obtain ⟨o, _, _, _, e, ex, _⟩ := I.hok p _ hk
      refine ⟨⟨o, e, ex.1⟩, fun a e2 => ?_⟩
      cases e2
      exact ⟨o, e, ex.2.1⟩
  | _ => exact False.elim ty
noncomputable def tBM (K : PySem.W.Frag) (T : String) (r : V → List V → Hp → VK → Prop) (to : TE) (t : TA) : TE := fun σ H Q => to σ H fun x H1 => tyV K T x H1 ∧ t σ H1 fun xs H2 => r x xs H2 Q
variable {o e : Expr} {es : List Expr} {to : TE} {t : TA} {name : Str} {apos cpos : Pos} {T id : String} {r : V → List V → Hp → VK → Prop}
theorem pe_bm (pa : PlainAttrs T) (slot : Slot T name id) (hty : typeOf (.builtin id) = pure (.type "method_descriptor")) (hm : MtR X id r) (ho : PE X o to) (ha : PA X (e :: es) t)
    (hbase : attributeBase o name X.env (eval o X.env) = eval o X.env := by rfl)
    (hfew : ((backTo cpos (starEach (e :: es) X.env)).all (fun x => !x.1) && (backToKw cpos (keywordEach [] X.env)).all (fun x => x.1.isSome)
      && decide ((e :: es).length + ([] : List Keyword).length + (if ([] : List Keyword).isEmpty then 0 else 1) < 30)) = true := by rfl)
    (hline : (apos.endLine == cpos.line) = true := by rfl) (hs : starEach (e :: es) X.env = (false, eval e X.env) :: starEach es X.env := by rfl) (hplain : (backTo cpos (starEach es X.env)).any (·.1) = false := by rfl) :
    PE X (.Call (.Attribute o name apos) (e :: es) [] cpos) (tBM X.K T r to t) := by
  intro pins s σ H Q I h
  refine wpAny_Call_method_late hbase hfew hline rfl (thn (ho pins s σ H _ I h) ?_)
  rintro v s1 ⟨x, H1, I1, r1, ty, q1⟩
  obtain ⟨h1, h2⟩ := tyV_is I1 r1 ty
  refine ⟨T, id, pa, slot, hty, h1, h2, ?_⟩
  have hA := ha cpos pins s1 σ H1 _ I1 q1
  rw [hs] at hA ⊢
  refine Calls.callWith_builtin (by show (false || (backTo cpos (starEach es X.env)).any (·.1)) = false; rw [hplain] <;> rfl) (Calls.evalArgs_plain ?_)
  exact thn hA fun us s2 ⟨vs, H2, I2, r2, q2⟩ => hm pins s2 σ H2 x vs v us Q I2 r1 r2 q2
/- xs.append(e), list.index on a module's tuple .. are MtR facts of 06m -/
end
end L2

namespace L2
open PySem PySem.Spec PyProof.Rows

noncomputable def MtM (X : Cx) (id : String) (r : V → List V → Hp → VK → Prop) : Prop :=
  ∀ (pins : List (Addr × Obj)) (s : Shared) (σ : St) (H : Hp) (x : V) (xs : List V) (v : Value) (us : List Value) (Q : VK), Inv X pins σ H s → RelV x v → Vals xs us → r x xs H Q →
    wpAny (model X.prog X.w) X.A (call (.builtin id) (v :: us)) (EP X pins σ Q) X.xe s

theorem Vals.one : ∀ {x : V} {us : List Value}, Vals [x] us → ∃ u, us = [u] ∧ RelV x u
  | _, _, .cons r .nil => ⟨_, rfl, r⟩

section
variable {X : Cx} {pins : List (Addr × Obj)} {σ : St} {H : Hp} {s : Shared} {l b : Addr} {xs ys zs : List V}

theorem Inv.lset {its its' : List Value} {n : Nat} {f : Array Value → Array Value} {t' : Nat} (I : Inv X pins σ H s) (hH : H l = some (.lst xs))
    (e : s.heap.get? l = some { cls := .type "list", data := .seq its.toArray n }) (hf : f its.toArray = its'.toArray) (hv : Vals ys its') (hz : ys.length ≤ sizeLine) :
    Inv X pins σ (upd H l (.lst ys)) { s with heap := s.heap.update l (Obj.mapSeq f), toks := t' } := by
  have q := PySem.IsL.update e f
  rw [hf] at q
  refine I.write (x := l) (e := l) (by rw [hH]; exact trivial) (.inl rfl) (fun b' u hb hu => (Heap.get?_update_other s.heap (Obj.mapSeq f) (Ne.symm hb)).trans hu) ⟨_, q⟩ ?_
  exact ⟨hz, its', _, hv, q⟩
theorem Inv.lnew {its : List Value} {t' : Nat} (I : Inv X pins σ H s) (hv : Vals ys its) (hz : ys.length ≤ sizeLine) :
    Inv X pins σ (upd H s.heap.objs.size (.lst ys)) { s with heap := s.heap.push { cls := .type "list", data := .seq its.toArray }, toks := t' } :=
  I.laid (fun _ _ q => Heap.get?_push_of_some _ q) (Nat.le_refl _) ⟨hz, its, 0, hv, Heap.get?_push_size _ rfl⟩
theorem Inv.fresh (I : Inv X pins σ H s) : H s.heap.objs.size = none := I.hok.fresh (Nat.le_refl _)
theorem Inv.lstM (I : Inv X pins σ H s) (hH : H l = some (.lst xs)) : xs.length ≤ sizeLine ∧ ∃ (its : List Value) (n : Nat), Vals xs its ∧ xs.length = its.length ∧ s.heap.get? l = some { cls := .type "list", data := .seq its.toArray n } := by
  obtain ⟨z, its, n, r, e⟩ := I.hok l _ hH
  exact ⟨z, its, n, r, r.length, e⟩

theorem notLongL {n : Nat} (h : n ≤ sizeLine) : Builtin.List.listTooLong n = false := by
  unfold Builtin.List.listTooLong
  exact decide_eq_false (by omega)
end

section
variable {X : Cx}

noncomputable def rAppend : V → List V → Hp → VK → Prop := fun x vs H Q => ∃ l xs y, x = .ref l ∧ vs = [y] ∧ H l = some (.lst xs) ∧ xs.length < sizeLine ∧ Q .non (upd H l (.lst (xs ++ [y])))
theorem mt_append : MtM X "list.append" rAppend := by
  intro pins s σ H x vs v us Q I rx rv h
  obtain ⟨l, xs, y, rfl, rfl, hH, hz, q⟩ := h
  cases rx
  obtain ⟨u, rfl, ru⟩ := rv.one
  obtain ⟨z, its, n, r, hl, e⟩ := I.lstM hH
  refine call_meets F.slot_list_append ⟨_, e, rfl⟩ F.entry_list_append (F.args_list_append_2 _ _) (PySem.list_append l its.toArray n u (by rw [List.size_toArray]; omega)) ⟨e, ?_⟩
  refine ⟨.non, _, I.lset (its' := its ++ [u]) hH e (by simp) (r.append (.cons ru .nil)) ?_, rfl, q⟩
  rw [List.length_append, List.length_singleton]
  omega

noncomputable def rExtend : V → List V → Hp → VK → Prop := fun x vs H Q => ∃ l b xs zs, x = .ref l ∧ vs = [.ref b] ∧ H l = some (.lst xs) ∧ H b = some (.lst zs) ∧ xs.length + zs.length ≤ sizeLine ∧ Q .non (upd H l (.lst (xs ++ zs)))
theorem mt_extend : MtM X "list.extend" rExtend := by
  intro pins s σ H x vs v us Q I rx rv h
  obtain ⟨l, b, xs, zs, rfl, rfl, hH, hB, hz, q⟩ := h
  cases rx
  obtain ⟨u, rfl, ru⟩ := rv.one
  cases ru
  obtain ⟨z, its, n, r, hl, e⟩ := I.lstM hH
  obtain ⟨z2, its2, n2, r2, hl2, e2⟩ := I.lstM hB
  have hsz : its.toArray.size + its2.toArray.size ≤ sizeLine := by rw [List.size_toArray, List.size_toArray]; omega
  have hlong : ¬ (!its.toArray.isEmpty && Builtin.List.listTooLong (its.toArray.size + its2.toArray.size)) = true := by
    rw [notLongL hsz, Bool.and_false]
    exact Bool.false_ne_true
  refine call_meets F.slot_list_extend ⟨_, e, rfl⟩ F.entry_list_extend (F.args_list_extend_2 _ _)
    (AutoSeq1.list_extend_list_list_0 l its.toArray n b its2.toArray n2 hlong (by rw [List.size_toArray]; omega) (by omega)) ⟨e, e2, ?_⟩
  refine ⟨.non, _, I.lset (its' := its ++ its2) hH e (by simp) (r.append r2) ?_, rfl, q⟩
  rw [List.length_append]
  omega

noncomputable def rCat : R2 := fun x y H Q => ∃ l b xs zs, x = .ref l ∧ y = .ref b ∧ H l = some (.lst xs) ∧ H b = some (.lst zs) ∧ xs.length + zs.length ≤ sizeLine ∧ ∀ p, H p = none → Q (.ref p) (upd H p (.lst (xs ++ zs)))
theorem op_cat : OpR X (binaryOp .Add) rCat := by
  intro pins s σ H x y v u Q I rx ry h
  obtain ⟨l, b, xs, zs, rfl, rfl, hH, hB, hz, q⟩ := h
  cases rx
  cases ry
  obtain ⟨z, its, n, r, hl, e⟩ := I.lstM hH
  obtain ⟨z2, its2, n2, r2, hl2, e2⟩ := I.lstM hB
  refine PySem.P.add_list e e2 ?_ (by rw [List.size_toArray, List.size_toArray]; omega)
  have ea : its.toArray ++ its2.toArray = (its ++ its2).toArray := by simp
  rw [ea]
  exact ⟨.ref _, _, I.lnew (t' := s.toks) (r.append r2) (by rw [List.length_append]; omega), rfl, q _ I.fresh⟩

end

section
variable {prog : Program} {w : World} {A : Around} {E : Value → Shared → Prop} {s : Shared}
end

section
variable {X : Cx}
end
end L2
namespace Att
open PySem PySem.W PySem.Calls PyProof.Rows

theorem ints_of_wellAll {P : Params} {h : Heap} : ∀ (ns : List Int) (vs : List Value), WellAll P h vs (ns.map WData.int) → IntsAre vs ns := by
  intro ns
  induction ns with
  | nil =>
    intro vs w
    rw [List.map_nil] at w
    cases w
    exact .nil
  | cons n ns ih =>
    intro vs w
    rw [List.map_cons] at w
    cases w with
    | cons a b =>
      cases a
      exact .cons _ _ (ih _ b)

theorem script_of {l : OpenLaw} {n : Nat} (hn : l.most = some n) {P : Params} {h : Heap} {args : List WData} {vals : List Value}
    (hpre : l.row.toRowW.claim.pre args = true) (hwl : WellAll P h vals args) :
    ∃ a vs ns, vals = [Value.ref a] ∧ args = [WData.list (ns.map WData.int)] ∧ h.get? a = some { cls := .type "list", data := .seq vs.toArray } ∧ IntsAre vs ns ∧ ns.length ≤ n := by
  have hsh : WShape.hasAll [] args [.list .int] = true := (pre_splitW hpre).1
  have hc : l.pre.holds [] { args := args } = true := (pre_splitW hpre).2
  obtain ⟨d, r, rfl, h1, h2⟩ := hasAllW_cons hsh
  obtain rfl := hasAllW_nil h2
  obtain ⟨xs, rfl, h3⟩ := hasW_list h1
  obtain ⟨ns, rfl⟩ := items_int h3
  have hlen : ns.length ≤ n := by
    unfold OpenLaw.pre at hc
    have h4 : (WTm.not (.lt (.lit (.int (n : Int))) (.len (.arg 0)))).holds [] { args := [.list (ns.map .int)] } = true := by
      have h4 := (holds_andW hc).1
      rw [hn] at h4
      exact h4
    have h5 := condW_of h4 (w_not (w_lt w_lit (w_len_list (w_arg rfl))))
    rw [List.length_map] at h5
    refine Nat.le_of_not_lt fun q => ?_
    have q' : (n : Int) < ((ns.length : Nat) : Int) := by omega
    first
      | (rw [decide_eq_true q'] at h5; exact absurd h5 (by decide))
      | (simp at h5; omega)
  cases hwl with
  | cons w1 w2 =>
    cases w2
    cases w1 with
    | list ho hall => exact ⟨_, _, ns, rfl, rfl, ho, ints_of_wellAll ns _ hall, hlen⟩

theorem post_true (l : OpenLaw) (args : List WData) : l.row.toRowW.claim.post args (.bool true) args = true :=
  postW_of (r := l.row.toRowW) (X := (true == true))
    (show WShape.has [] (.bool true) .bool = true by first | rfl | decide | simp [WShape.has, WShape.arms, WShape.armsAll])
    (show (WTm.eq .res (.lit (.bool true))).value [] { args := args, res := some (.bool true), after := args } = some (.bool (true == true)) from w_eq_bool (w_res rfl) w_lit) rfl

theorem attach_call {l : OpenLaw} {n : Nat} {q : Program} {loose : List Str} {XP : (Str → Option Value) → Heap → Prop} {YP : World → Heap → Prop} {d : DefRec}
    (hn : l.most = some n) (hdf : d.params.defaults = [])
    (call : ∀ (w : World) (s₀ s₁ : Shared) (mg mb : Str → Option Value) (fa : Addr) (o : Obj) (pm cd doc : Value) (a : Addr) (vs : List Value) (ns : List Int),
      Ground q loose [] XP w s₀ mg mb s₁.heap → YP w s₁.heap →
      s₁.heap.get? fa = some o → o.data = .func (docDef d.name d.params d.body d.scope pm cd doc) → s₁.heap.CodeRec cd d.name → mg d.name = some (.ref fa) →
      s₁.heap.get? a = some { cls := .type "list", data := .seq vs.toArray } → IntsAre vs ns → ns.length ≤ n → s₁.gens = #[] →
      codeAny (model l.prog w) callerA (.call (.ref fa) ⟨[.ref a], []⟩) (fun r s' => r = .ok (.ret (.bool true)) ∧ OldK s₁.heap s'.heap ∧ s'.os = s₁.os ∧ AllBare s'.gens) s₁) :
    WalkO q loose XP YP l.row.toRowW d [] (fun f vs => PySem.call f vs) := by
  intro w s₀ s₁ mg mb G Y fa o pm cd doc dV kV ho hd hcd hD hmg hg args vals as hpre hlay hrd hwl hlo
  obtain rfl : dV = .none := Dflts.none hD hdf
  obtain rfl : kV = .none := Dflts.noKw hD
  obtain ⟨a, vs, ns, rfl, rfl, hobj, hints, hlen⟩ := script_of hn hpre hwl
  refine enter_call (codeAny_mono (call w s₀ s₁ mg mb fa o pm cd doc a vs ns G Y ho (fd_plain hd) hcd hmg hobj hints hlen hg) fun r s' hq => ?_)
  obtain ⟨rfl, h2, h3, h4⟩ := hq
  exact ⟨.inl ⟨.bool true, .bool true, [], rfl, fun _ => rfl, .bool true, post_true l _, fun _ => ⟨List.Pairwise.nil, fun _ hm => (nomatch hm)⟩⟩, h2, h3, h4⟩

section
variable {prog : Program} {w : World} {A : Around} {E : Value → Shared → Prop} {s : Shared} {K : Frag}

end
end Att

namespace L2
open PySem PySem.Spec PyProof.Rows

theorem vals_ints : ∀ {vs : List Value} {ns : List Int}, IntsAre vs ns → Vals (ns.map V.int) vs
  | _, _, .nil => .nil
  | _, _, .cons n t h => .cons ⟨t, rfl⟩ (vals_ints h)

noncomputable def Only (H : Hp) : Prop := ∀ b, H b = none ∨ ∃ o xs, H b = some (.frz o (.lst xs))

theorem law_call {P : Program} {w : World} {K : PySem.W.Frag} {mg mb : Str → Option Value} {CX : CXT} {k : Nat} {fa a : Addr} {fd : FuncData} {x : Str} {sp : Sp} {s₁ : Shared} {vs : List Value} {ns : List Int}
    (KX : K.In s₁.heap) (hns : s₁.heap.Ns mainGlobals mg) (hb : s₁.heap.Ns builtinsNs mb) (hbb : ∀ x : Str, x ≠ "__name__" → mb x = bootBuiltins x) (hlim : s₁.heap.NoLimit) (hg : s₁.gens = #[])
    (ha : s₁.heap.get? a = some { cls := .type "list", data := .seq vs.toArray }) (hi : IntsAre vs ns) (hl : ns.length ≤ sizeLine) (hr : Room k callerA)
    (F : ∀ base : Heap, K.In base → base.Ns mainGlobals mg → FnOk P w K mg base CX k fa fd [x] sp) (hbind : ∀ (s : Shared) (u : Value), BindsTo s fd ⟨[u], []⟩ [(x, u)])
    (hsp : ∀ H : Hp, Only H → SqL K H a (ns.map V.int) → sp [.ref a] H (fun v _ => v = .bl true) fun _ _ _ => False)
    (hCX : ∀ H e s', CX [] H s₁ (fun _ _ _ => False) e s' → False) :
    codeAny (model P w) callerA (.call (.ref fa) ⟨[.ref a], []⟩) (fun r s' => r = .ok (.ret (.bool true)) ∧ OldK s₁.heap s'.heap ∧ s'.os = s₁.os ∧ AllBare s'.gens) s₁ := by
  have rv := vals_ints hi
  have lenV := hi.length
  -- from an abstract heap in which nothing but the script may be tracked
  have core : ∀ H : Hp, Only H → SqL K H a (ns.map V.int) → HOk P w H s₁.heap → (∀ b, H b ≠ none → b = a) → (H a ≠ none → K.lookup a = none) →
      codeAny (model P w) callerA (.call (.ref fa) ⟨[.ref a], []⟩) (fun r s' => r = .ok (.ret (.bool true)) ∧ OldK s₁.heap s'.heap ∧ s'.os = s₁.os ∧ AllBare s'.gens) s₁ := by
    intro H hO hS hok hA hK
    have base_of : ∀ {b : Addr} {o : Obj}, s₁.heap.get? b = some o → H b = none → (hidT s₁.heap H).get? b = some o := fun e n => hidT_get e n
    have noA : ∀ {b : Addr} {o : Obj} {es : Array DictEntry} {ep : Nat}, s₁.heap.get? b = some o → o.data = .dict es ep → H b = none := fun {b o es ep} e d => by
      cases q : H b with
      | none => rfl
      | some u =>
        have e' : b = a := hA b (by rw [q]; simp)
        subst e'
        rw [ha] at e; cases e
        have d' : Data.seq vs.toArray _ = Data.dict es ep := d
        cases d'
    have nsK : ∀ {b : Addr} {m : Str → Option Value}, s₁.heap.Ns b m → (hidT s₁.heap H).Ns b m := fun {b m} ⟨o, es, ep, e, d, r⟩ => ⟨o, es, ep, base_of e (noA e d), d, r⟩
    have hKb : K.In (hidT s₁.heap H) := fun b o e => base_of (KX b o e) (by
      cases q : H b with
      | none => rfl
      | some u =>
        have e' : b = a := hA b (by rw [q]; simp)
        subst e'
        rw [hK (by rw [q]; simp)] at e; cases e)
    have hM : Mod K mg (hidT s₁.heap H) := ⟨hKb, nsK hns, ⟨mb, nsK hb, hbb⟩, let ⟨mc, h1, h2⟩ := hlim; ⟨mc, nsK h1, h2⟩⟩
    have e0 : Env0 P w K mg (hidT s₁.heap H) callerA [] s₁ H := ⟨rfl, hM, fun b o e => of_hidT e, Nat.le_of_eq (hidT_size _ _), trivial, fun b hb => absurd (show b ∈ ([] : List Addr) from hb) (by simp), hok, .of_eq hg⟩
    refine codeAny_mono ((F _ hKb (nsK hns)).run callerA [] s₁ H ⟨[.ref a], []⟩ [.ref a] [.ref a] _ _ hr e0 (hbind s₁ (.ref a)) (.cons rfl .nil) (hsp H hO hS)) fun r s' h => ?_
    cases r with
    | error e => exact (hCX H e s' h).elim
    | ok fl =>
      cases fl with
      | next => exact False.elim h
      | brk => exact False.elim h
      | cont => exact False.elim h
      | ret u =>
        obtain ⟨v, H', os, bare, un, hok', r', q⟩ := h
        have q' : v = .bl true := q
        subst q'
        obtain rfl : u = Value.bool true := r'
        refine ⟨rfl, OldK.of_keep fun b o e => ?_, os, bare⟩
        cases q : H b with
        | none => exact un.keep b o e q (by intro z; exact absurd (show b ∈ ([] : List Addr) from z) (by simp)) (by simp)
        | some u =>
          rcases hO b with z | ⟨ob, xs, z⟩
          · rw [q] at z; cases z
          · have z2 := un.frzs b ob _ z
            obtain ⟨e1, _⟩ := hok b _ z
            obtain ⟨e2, _⟩ := hok' b _ z2
            rw [e] at e1; cases e1
            exact e2
  cases hk : K.lookup a with
  | some o =>
    -- the script is one of the module's own objects
    have e := KX a o hk
    rw [ha] at e
    cases e
    refine core (fun _ => none) (fun _ => .inl rfl) (.inr ⟨_, vs.toArray, _, hk, rfl, rfl, rfl, by rw [List.size_toArray, lenV]; exact hl, by simpa using rv⟩) (fun b u z => by have z' : (none : Option HO) = some u := z; cases z') (fun b z => absurd rfl z) fun z => absurd rfl z
  | none =>
    refine core (fun b => if b = a then some (.frz { cls := .type "list", data := .seq vs.toArray } (.lst (ns.map V.int))) else none) (fun b => ?_) (.inl (.inr ⟨{ cls := .type "list", data := .seq vs.toArray }, if_pos rfl⟩)) (fun b u z => ?_) (fun b z => ?_) fun _ => hk
    · by_cases hb : b = a
      · exact .inr ⟨_, _, if_pos hb⟩
      · exact .inl (if_neg hb)
    · by_cases hb : b = a
      · have z' := (if_pos hb).symm.trans z
        cases z'
        subst hb
        exact ⟨ha, by rw [List.length_map]; exact hl, vs, _, rv, ha⟩
      · have z' := (if_neg hb).symm.trans z
        cases z'
    · by_cases hb : b = a
      · exact hb
      · exact absurd (if_neg hb) z
end L2

namespace L2
open PySem PySem.Spec PyProof.Rows

theorem walk_of {l : PySem.W.OpenLaw} {n k : Nat} {q : Program} {loose : List Str} {XP : (Str → Option Value) → Heap → Prop} {YP : World → Heap → Prop} {d : DefRec} {K : Params → PySem.W.Frag} {CX : World → CXT} {sp : World → Sp} {x : Str}
    (hn : l.most = some n) (hn2 : n ≤ sizeLine) (hdf : d.params.defaults = []) (hr : Room k callerA)
    (hY : ∀ (w : World) (h : Heap), YP w h → (K w.params).In h)
    (F : ∀ (w : World) (mg : Str → Option Value) (fa : Addr) (h : Heap), (K w.params).In h → h.Ns mainGlobals mg → mg d.name = some (.ref fa) →
      ∃ fd : FuncData, (∀ (s : Shared) (u : Value), BindsTo s fd ⟨[u], []⟩ [(x, u)]) ∧
        ∀ base : Heap, (K w.params).In base → base.Ns mainGlobals mg → FnOk l.prog w (K w.params) mg base (CX w) k fa fd [x] (sp w))
    (hsp : ∀ (w : World) (H : Hp) (a : Addr) (ns : List Int), ns.length ≤ n → Only H → SqL (K w.params) H a (ns.map V.int) → sp w [.ref a] H (fun v _ => v = .bl true) fun _ _ _ => False)
    (hCX : ∀ (w : World) (H : Hp) (s : Shared) (e : Value) (s' : Shared), CX w [] H s (fun _ _ _ => False) e s' → False) :
    PySem.W.WalkO q loose XP YP l.row.toRowW d [] (fun f vs => PySem.call f vs) := by
  refine Att.attach_call hn hdf fun w s₀ s₁ mg mb fa o pm cd doc a vs ns G Y ho hd hcd hmg hobj hints hlen hg => ?_
  have KX := hY w _ Y
  obtain ⟨fd, hb, hF⟩ := F w mg fa _ KX G.T.g hmg
  exact law_call KX G.T.g G.T.b G.T.builtins G.T.nolimit hg hobj hints (Nat.le_trans hlen hn2) hr hF hb (fun H hO hS => hsp w H a ns hlen hO hS) fun H e s' => hCX w H s₁ e s'
theorem walk_ofK {l : PySem.W.OpenLaw} {n k : Nat} {q : Program} {loose : List Str} {XP : (Str → Option Value) → Heap → Prop} {YP : World → Heap → Prop} {d : DefRec} {K : Params → PySem.W.Frag} {CX : CXT} {sp : PySem.W.Frag → Sp} {x : Str}
    (hn : l.most = some n) (hn2 : n ≤ sizeLine) (hdf : d.params.defaults = []) (hr : Room k callerA)
    (hY : ∀ (w : World) (h : Heap), YP w h → (K w.params).In h)
    (F : ∀ (w : World) (mg : Str → Option Value) (fa : Addr) (h : Heap), (K w.params).In h → h.Ns mainGlobals mg → mg d.name = some (.ref fa) →
      ∃ fd : FuncData, (∀ (s : Shared) (u : Value), BindsTo s fd ⟨[u], []⟩ [(x, u)]) ∧
        ∀ base : Heap, (K w.params).In base → base.Ns mainGlobals mg → FnOk l.prog w (K w.params) mg base CX k fa fd [x] (sp (K w.params)))
    (hsp : ∀ (K : PySem.W.Frag) (H : Hp) (a : Addr) (ns : List Int), ns.length ≤ n → Only H → SqL K H a (ns.map V.int) → sp K [.ref a] H (fun v _ => v = .bl true) fun _ _ _ => False)
    (hCX : ∀ (H : Hp) (s : Shared) (e : Value) (s' : Shared), CX [] H s (fun _ _ _ => False) e s' → False) :
    PySem.W.WalkO q loose XP YP l.row.toRowW d [] (fun f vs => PySem.call f vs) :=
  walk_of (K := K) (CX := fun _ => CX) (sp := fun w => sp (K w.params)) hn hn2 hdf hr hY F (fun w H a ns h1 h2 h3 => hsp (K w.params) H a ns h1 h2 h3) fun _ H s e s' => hCX H s e s'
end L2
namespace L2
open PySem PySem.Spec PyProof.Rows

noncomputable def defArgs (s : Stmt) : Arguments := match s with
  | .FunctionDef _ a _ _ _ _ _ _ _ _ => a
  | _ => { posonlyargs := [], args := [], vararg := none, kwonlyargs := [], kw_defaults := [], kwarg := none, defaults := [] }
noncomputable def defBody (s : Stmt) : List Stmt := match s with
  | .FunctionDef _ _ b _ _ _ _ _ _ _ => b
  | _ => []
noncomputable def defScope (s : Stmt) : Scope := match s with
  | .FunctionDef _ _ _ _ _ _ sc _ _ _ => sc
  | _ => { kind := .function, names := [], isGenerator := false, isCoroutine := false }

noncomputable abbrev CX0 : CXT := fun _ _ _ _ _ _ => False
noncomputable abbrev E0 : XK := fun _ _ _ => False
theorem pass0 {X : Cx} : Passes CX0 X E0 := fun _ _ _ _ _ _ _ h => h.elim

structure Fun (K : PySem.W.Frag) (x qual : Str) (st : Stmt) (f : Addr) (fd : FuncData) : Prop where
  ex : ∃ (oc : Value) (od : Option Addr) (kV doc pm : Value) (an : Option Addr) (cdv ct : Value) (osl : Array (Option Value)),
    fd = PySem.W.fnOf x qual (defArgs st) (defBody st) (defScope st) .none kV doc pm an cdv ct ∧ K.lookup f = some ⟨oc, od, .func fd, osl⟩ ∧ PySem.W.codeIn K cdv qual = true
  kp : PySem.W.keepIn K (.ref f) = true
section
variable {P : Program} {w : World} {K : PySem.W.Frag} {mg : Str → Option Value} {base : Heap}
theorem Fun.ok {x qual : Str} {st : Stmt} {f : Addr} {fd : FuncData} {N ps : List Str} {k : Nat} {sp : Sp} (F : Fun K x qual st f fd) (S : FnScope N ps (defScope st)) (len : ∀ vs H Q E, sp vs H Q E → vs.length = ps.length)
    (hbody : ∀ (cdv : Value) (A : Around) (outer : List Env) (s : Shared) (H : Hp) (vs : List V) (Q : VK) (E : XK), Room k (A.deeper (envOfC qual (defScope st) s.heap.objs.size f cdv)) → sp vs H Q E →
      ∃ t, PSs (cxOf CX0 P w K mg base N qual (defScope st) f cdv A outer s H E).nox (defBody st) t ∧ t { nx := fun _ H' => Q .non H', rt := Q } (start N vs) H) : FnOk P w K mg base CX0 (k + 1) f fd ps sp := by
  obtain ⟨oc, od, kV, doc, pm, an, cdv, ct, osl, rfl, lk, hcd⟩ := F.ex
  refine fn_of lk hcd S len fun A outer s H vs Q E hr hsp => ?_
  obtain ⟨t, h, q⟩ := hbody cdv A outer s H vs Q E hr hsp
  exact ⟨t, h.nox, q⟩
theorem Fun.binds {x qual : Str} {st : Stmt} {f : Addr} {fd : FuncData} {ps : List Str} (F : Fun K x qual st f fd)
    (h : ∀ (kV doc pm : Value) (an : Option Addr) (cdv ct : Value) (us : List Value), us.length = ps.length → bindArgs (PySem.W.fnOf x qual (defArgs st) (defBody st) (defScope st) .none kV doc pm an cdv ct) ⟨us, []⟩ = pure (ps.zip us)) : Binds K fd ps [] := by
  obtain ⟨oc, od, kV, doc, pm, an, cdv, ct, osl, rfl, lk, hcd⟩ := F.ex
  exact .all (h kV doc pm an cdv ct)
theorem fun_mk {x qual : Str} {st : Stmt} {f : Addr} {oc : Value} {od an : Option Addr} {osl : Array (Option Value)} {kV doc pm cdv ct : Value} (l : K.lookup f = some ⟨oc, od, .func (PySem.W.fnOf x qual (defArgs st) (defBody st) (defScope st) .none kV doc pm an cdv ct), osl⟩)
    (c : PySem.W.codeIn K cdv qual = true) (k : PySem.W.keepIn K (.ref f) = true) : Fun K x qual st f (PySem.W.fnOf x qual (defArgs st) (defBody st) (defScope st) .none kV doc pm an cdv ct) := ⟨⟨oc, od, kV, doc, pm, an, cdv, ct, osl, rfl, l, c⟩, k⟩
end
theorem small1000 {n : Nat} (h : n ≤ 1000) : n < sizeLine := Nat.lt_of_le_of_lt h (by decide)

section
variable {X : Cx}
theorem pv (i : Nat) {x : Str} {pos : Pos} (hN : X.N[i]? = some x := by rfl) (hv : Vis X.env.scope x := by first | exact Or.inl rfl | exact Or.inr (Or.inl rfl) | exact Or.inr (Or.inr rfl)) (hd : (x == ("__debug__" : Str)) = false := by decide)
    (hcd : (x == ("__classdict__" : Str)) = false := by decide) : PE X (.Name x pos) (tVar i) := pe_var hN hv hd hcd
end

theorem iteF {A B : Prop} (h : B) : if false = true then A else B := by
  rw [if_neg Bool.false_ne_true]
  exact h
theorem iteT {A B : Prop} (h : A) : if true = true then A else B := by
  rw [if_pos rfl]
  exact h

noncomputable def Same (H H' : Hp) : Prop := ∀ b o, H b = some o → H' b = some o
theorem Same.refl (H : Hp) : Same H H := fun _ _ h => h
theorem Same.trans {H H1 H2 : Hp} (a : Same H H1) (b : Same H1 H2) : Same H H2 := fun c o h => b c o (a c o h)
theorem Same.seq {K : PySem.W.Frag} {H H' : Hp} {a : Addr} {xs : List V} (e : Same H H') (h : SqL K H a xs) : SqL K H' a xs := by
  rcases h with (h | ⟨o, h⟩) | h
  · exact .inl (.inl (e _ _ h))
  · exact .inl (.inr ⟨o, e _ _ h⟩)
  · exact .inr h

section
variable {κ : Type} [DecidableEq κ]
end
end L2

set_option Elab.async false
set_option linter.all false
set_option maxRecDepth 100000
namespace M
open PySem PySem.W PySem.Spec PyProof.Rows L2
noncomputable def NF (X:Cx) (a:Addr):Prop:=∀ o u,X.H₀ a ≠ some (.frz o u)
section
variable {X:Cx} {pins:List (Addr × Obj)} {σ:L2.St} {H:Hp} {s:Shared} {a:Addr} {o:Obj} {kvs:List (List Key × V)}
theorem objOk_tag {P:Program} {w:World} {h:Heap} {b:Addr} {u:HO} (e:H a=some (.dT kvs)) (x:ObjOk P w H h b u):ObjOk P w (upd H a (.frz o (.dT kvs))) h b u :=
 x.stay (fun c v _ q=>q) (fun c q=>by rw [upd_ne (ne_of q e (fun z=>nomatch z))]; exact q) fun c xs q=>by rw [upd_ne (ne_of q e (fun z=>nomatch z))]; exact q
theorem objOk_untag {P:Program} {w:World} {h:Heap} {b:Addr} {u:HO} (e:H a=some (.frz o (.dT kvs))) (x:ObjOk P w H h b u):ObjOk P w (upd H a (.dT kvs)) h b u :=
 x.stay (fun c v _ q=>q) (fun c q=>by rw [upd_ne (ne_of q e (fun z=>nomatch z))]; exact q) fun c xs q=>by rw [upd_ne (ne_of q e (fun z=>nomatch z))]; exact q
theorem _root_.L2.Inv.tag (I:Inv X pins σ H s) (e:H a=some (.dT kvs)) (g:s.heap.get? a=some o):Inv X pins σ (upd H a (.frz o (.dT kvs))) s/\NF X a:=by
 have nn:∀ b,H b=none->b ≠ a:=fun b n z=>by rw [z,e] at n; cases n
 refine ⟨⟨I.ok,I.os,I.bare,⟨I.base.keep,I.base.slot,fun b ob q n hx=>?_,I.base.there,fun b xs q=>?_,fun b ob u q=>?_,fun b ps q=>?_⟩,I.loc,I.cell,?_,fun x c q=>?_,fun p hp=>?_,fun b u q=>?_,I.len⟩,fun ob u q=>?_⟩
 ·have:=I.base.free b ob q n hx
  rw [upd_ne (nn b this)]; exact this
 ·have:=I.base.tups b xs q
  rw [upd_ne (ne_of this e (fun z=>nomatch z))]; exact this
 ·have:=I.base.frzs b ob u q
  rw [upd_ne (ne_of this e (fun z=>nomatch z))]; exact this
 ·obtain ⟨m,this⟩:=I.base.tbls b ps q
  exact ⟨m,by rw [upd_ne (ne_of this e (fun z=>nomatch z))]; exact this⟩
 ·rw [upd_ne (nn _ I.free)]; exact I.free
 ·have:=I.freeC x c q
  rw [upd_ne (nn _ this)]; exact this
 ·obtain ⟨h1,h2,h3⟩:=I.pin p hp
  exact ⟨h1,by rw [upd_ne (nn _ h2)]; exact h2,h3⟩
 ·by_cases hb:b=a
  ·subst hb
   rw [upd_same] at q
   cases q
   exact ⟨g,objOk_tag e (I.hok b _ e)⟩
  ·rw [upd_ne hb] at q
   exact objOk_tag e (I.hok b u q)
 ·have:=I.base.frzs a ob u q
  rw [e] at this; cases this
theorem _root_.L2.Inv.untag (I:Inv X pins σ H s) (e:H a=some (.frz o (.dT kvs))) (nf:NF X a):Inv X pins σ (upd H a (.dT kvs)) s:=by
 have nn:∀ b,H b=none->b ≠ a:=fun b n z=>by rw [z,e] at n; cases n
 refine ⟨I.ok,I.os,I.bare,⟨I.base.keep,I.base.slot,fun b ob q n hx=>?_,I.base.there,fun b xs q=>?_,fun b ob u q=>?_,fun b ps q=>?_⟩,I.loc,I.cell,?_,fun x c q=>?_,fun p hp=>?_,fun b u q=>?_,I.len⟩
 ·have:=I.base.free b ob q n hx
  rw [upd_ne (nn b this)]; exact this
 ·have:=I.base.tups b xs q
  rw [upd_ne (ne_of this e (fun z=>nomatch z))]; exact this
 ·have:=I.base.frzs b ob u q
  by_cases hb:b=a
  ·subst hb; exact absurd q (nf ob u)
  ·rw [upd_ne hb]; exact this
 ·obtain ⟨m,this⟩:=I.base.tbls b ps q
  exact ⟨m,by rw [upd_ne (ne_of this e (fun z=>nomatch z))]; exact this⟩
 ·rw [upd_ne (nn _ I.free)]; exact I.free
 ·have:=I.freeC x c q
  rw [upd_ne (nn _ this)]; exact this
 ·obtain ⟨h1,h2,h3⟩:=I.pin p hp
  exact ⟨h1,by rw [upd_ne (nn _ h2)]; exact h2,h3⟩
 ·by_cases hb:b=a
  ·subst hb
   rw [upd_same] at q
   cases q
   exact objOk_untag e (I.hok b _ e).2
  ·rw [upd_ne hb] at q
   exact objOk_untag e (I.hok b u q)
end
noncomputable def Untag (X:Cx) (H H':Hp):Prop:=H'=H\/∃ a o kvs,NF X a/\H a=some (.frz o (.dT kvs))/\H'=upd H a (.dT kvs)
theorem Untag.inv {X:Cx} {pins:List (Addr × Obj)} {σ:L2.St} {H H':Hp} {s:Shared} (u:Untag X H H') (I:Inv X pins σ H s):Inv X pins σ H' s:=by
 rcases u with rfl | ⟨a,o,kvs,nf,e,rfl⟩
 ·exact I
 ·exact I.untag e nf
theorem pe_untag {X:Cx} {e:Expr} {t:TE} (h:PE X e t):PE X e (fun σ H Q=>t σ H fun v H'=>∃ H'',Untag X H' H''/\Q v H''):=fun pins s σ H Q I q =>
 thn (h pins s σ H _ I q) fun v s' ⟨x,H',I',r,H'',u,q⟩=>⟨x,H'',u.inv I',r,q⟩

theorem pe_tag {X:Cx} {e:Expr} {t:TE} (h:PE X e t):PE X e (fun σ H Q=>t σ H fun v H'=>Q v H'\/∃ a ws,v=.ref a/\H' a=some (.dT ws)/\∀ o,Q v (upd H' a (.frz o (.dT ws)))):=fun pins s σ H Q I q =>
 thn (h pins s σ H _ I q) fun v s' ⟨x,H',I',r,q⟩=>by
  rcases q with q | ⟨a,ws,rfl,e,q⟩
  ·exact ⟨x,H',I',r,q⟩
  ·obtain ⟨z,y,xs,rr,o,es,ep,h1,h2⟩:=(show ObjOk X.prog X.w H' s'.heap a (.dT ws) from I'.hok a _ e)
   exact ⟨_,_,(I'.tag e h1).1,r,q o⟩
end M

set_option Elab.async false
set_option linter.all false
set_option maxRecDepth 100000
namespace M
open PySem PySem.Spec PyProof.Rows L2

noncomputable abbrev St:=L2.St
inductive D where
 | non | bl (b:Bool) | int (i:Int) | str (s:Str)
 | tup (xs:List D) | lst (xs:List D) | dic (kvs:List (List Int × D))
  | scr (ns:List Int)
instance:Inhabited D:=⟨.non⟩

mutual
noncomputable def Rp (K:PySem.W.Frag) (H:Hp) (O:Addr->Prop):D->V->Prop
 | .non,v=>v=.non
 | .bl b,v=>v=.bl b
 | .int i,v=>v=.int i
 | .str s,v=>v=.str s
 | .tup ds,v=>∃ a vs,v=.ref a/\¬ O a/\H a=some (.tup vs)/\Rps K H O ds vs
 | .lst ds,v=>∃ a vs,v=.ref a/\¬ O a/\H a=some (.lst vs)/\Rps K H O ds vs
 | .dic kvs,v=>∃ a ws,v=.ref a/\¬ O a/\(∃ o,H a=some (.frz o (.dT ws)))/\Rpk K H O kvs ws
 | .scr ns,v=>∃ a,v=.ref a/\((¬ O a/\Rd H a (.lst (ns.map V.int)))\/SqL K (fun _=>none) a (ns.map V.int))
noncomputable def Rps (K:PySem.W.Frag) (H:Hp) (O:Addr->Prop):List D->List V->Prop
 | [],vs=>vs=[]
 | d :: ds,vs=>∃ v r,vs=v :: r/\Rp K H O d v/\Rps K H O ds r
noncomputable def Rpk (K:PySem.W.Frag) (H:Hp) (O:Addr->Prop):List (List Int × D)->List (List Key × V)->Prop
 | [],ws=>ws=[]
 | kd :: r,ws=>∃ v r',ws=(kd.1.map Sum.inl,v) :: r'/\Rpq K H O kd v/\Rpk K H O r r'
noncomputable def Rpq (K:PySem.W.Frag) (H:Hp) (O:Addr->Prop):List Int × D->V->Prop
 | (_,d),v=>Rp K H O d v
end
section
variable {K:PySem.W.Frag} {H H':Hp} {O O':Addr->Prop}
mutual
theorem Rp.mono (s:Same H H') (o:∀ a,O' a->O a):∀ {d:D} {v:V},Rp K H O d v->Rp K H' O' d v
 | .non,_,h=>h
 | .bl _,_,h=>h
 | .int _,_,h=>h
 | .str _,_,h=>h
 | .tup _,_,h=>by
  unfold Rp at h ⊢
  obtain ⟨a,vs,e,no,q,r⟩:=h
  exact ⟨a,vs,e,fun z=>no (o a z),s _ _ q,Rps.mono s o r⟩
 | .lst _,_,h=>by
  unfold Rp at h ⊢
  obtain ⟨a,vs,e,no,q,r⟩:=h
  exact ⟨a,vs,e,fun z=>no (o a z),s _ _ q,Rps.mono s o r⟩
 | .dic _,_,h=>by
  unfold Rp at h ⊢
  obtain ⟨a,vs,e,no,q,r⟩:=h
  exact ⟨a,vs,e,fun z=>no (o a z),q.imp fun _ h=>s _ _ h,Rpk.mono s o r⟩
 | .scr _,_,h=>by
  unfold Rp at h ⊢
  obtain ⟨a,e,⟨no,q⟩ | q⟩:=h
  ·refine ⟨a,e,.inl ⟨fun z=>no (o a z),?_⟩⟩
   rcases q with q | ⟨ob,q⟩
   ·exact .inl (s _ _ q)
   ·exact .inr ⟨ob,s _ _ q⟩
  ·exact ⟨a,e,.inr q⟩
theorem Rps.mono (s:Same H H') (o:∀ a,O' a->O a):∀ {ds:List D} {vs:List V},Rps K H O ds vs->Rps K H' O' ds vs
 | [],_,h=>h
 | _ :: _,_,h=>by
  unfold Rps at h ⊢
  obtain ⟨v,r,e,p,q⟩:=h
  exact ⟨v,r,e,Rp.mono s o p,Rps.mono s o q⟩
theorem Rpk.mono (s:Same H H') (o:∀ a,O' a->O a):∀ {ds:List (List Int × D)} {vs:List (List Key × V)},Rpk K H O ds vs->Rpk K H' O' ds vs
 | [],_,h=>h
 | (_,_) :: _,_,h=>by
  unfold Rpk at h ⊢
  obtain ⟨v,r,e,p,q⟩:=h
  unfold Rpq at p ⊢
  exact ⟨v,r,e,Rp.mono s o p,Rpk.mono s o q⟩
end
theorem Rp.scr {ns:List Int} {v:V} (h:Rp K H O (.scr ns) v):∃ a,v=.ref a/\SqL K H a (ns.map V.int):=by
 unfold Rp at h
 obtain ⟨a,e,⟨_,q⟩ | q⟩:=h
 ·exact ⟨a,e,.inl q⟩
 ·exact ⟨a,e,Same.seq (fun _ _ z=>by cases z) q⟩
mutual
theorem Rp.fresh {a:Addr} (n:H a=none):∀ {d:D} {v:V},Rp K H O d v->Rp K H (fun b=>O b\/b=a) d v
 | .non,_,h=>h
 | .bl _,_,h=>h
 | .int _,_,h=>h
 | .str _,_,h=>h
 | .tup _,_,h=>by
  unfold Rp at h ⊢
  obtain ⟨b,vs,e,no,q,r⟩:=h
  exact ⟨b,vs,e,fun z=>z.elim no fun z=>(by subst z; rw [n] at q; cases q),q,Rps.fresh n r⟩
 | .lst _,_,h=>by
  unfold Rp at h ⊢
  obtain ⟨b,vs,e,no,q,r⟩:=h
  exact ⟨b,vs,e,fun z=>z.elim no fun z=>(by subst z; rw [n] at q; cases q),q,Rps.fresh n r⟩
 | .dic _,_,h=>by
  unfold Rp at h ⊢
  obtain ⟨b,vs,e,no,q,r⟩:=h
  exact ⟨b,vs,e,fun z=>z.elim no fun z=>(by subst z; obtain ⟨_,q⟩:=q; rw [n] at q; cases q),q,Rpk.fresh n r⟩
 | .scr _,_,h=>by
  unfold Rp at h ⊢
  obtain ⟨b,e,⟨no,q⟩ | q⟩:=h
  ·refine ⟨b,e,.inl ⟨fun z=>z.elim no fun z=>?_,q⟩⟩
   subst z
   rcases q with q | ⟨ob,q⟩<;>(rw [n] at q; cases q)
  ·exact ⟨b,e,.inr q⟩
theorem Rps.fresh {a:Addr} (n:H a=none):∀ {ds:List D} {vs:List V},Rps K H O ds vs->Rps K H (fun b=>O b\/b=a) ds vs
 | [],_,h=>h
 | _ :: _,_,h=>by
  unfold Rps at h ⊢
  obtain ⟨v,r,e,p,q⟩:=h
  exact ⟨v,r,e,Rp.fresh n p,Rps.fresh n q⟩
theorem Rpk.fresh {a:Addr} (n:H a=none):∀ {ds:List (List Int × D)} {vs:List (List Key × V)},Rpk K H O ds vs->Rpk K H (fun b=>O b\/b=a) ds vs
 | [],_,h=>h
 | (_,_) :: _,_,h=>by
  unfold Rpk at h ⊢
  obtain ⟨v,r,e,p,q⟩:=h
  unfold Rpq at p ⊢
  exact ⟨v,r,e,Rp.fresh n p,Rpk.fresh n q⟩
end
mutual
theorem Rp.write {a:Addr} {u:HO} (n:O a):∀ {d:D} {v:V},Rp K H O d v->Rp K (upd H a u) O d v
 | .non,_,h=>h
 | .bl _,_,h=>h
 | .int _,_,h=>h
 | .str _,_,h=>h
 | .tup _,_,h=>by
  unfold Rp at h ⊢
  obtain ⟨b,vs,e,no,q,r⟩:=h
  exact ⟨b,vs,e,no,by rw [upd_ne (fun z=>no (by rw [z]; exact n))]; exact q,Rps.write n r⟩
 | .lst _,_,h=>by
  unfold Rp at h ⊢
  obtain ⟨b,vs,e,no,q,r⟩:=h
  exact ⟨b,vs,e,no,by rw [upd_ne (fun z=>no (by rw [z]; exact n))]; exact q,Rps.write n r⟩
 | .dic _,_,h=>by
  unfold Rp at h ⊢
  obtain ⟨b,vs,e,no,q,r⟩:=h
  exact ⟨b,vs,e,no,by rw [upd_ne (fun z=>no (by rw [z]; exact n))]; exact q,Rpk.write n r⟩
 | .scr _,_,h=>by
  unfold Rp at h ⊢
  obtain ⟨b,e,⟨no,q⟩ | q⟩:=h
  ·refine ⟨b,e,.inl ⟨no,?_⟩⟩
   have hb:b ≠ a:=fun z=>no (by rw [z]; exact n)
   unfold Rd
   rw [upd_ne hb]; exact q
  ·exact ⟨b,e,.inr q⟩
theorem Rps.write {a:Addr} {u:HO} (n:O a):∀ {ds:List D} {vs:List V},Rps K H O ds vs->Rps K (upd H a u) O ds vs
 | [],_,h=>h
 | _ :: _,_,h=>by
  unfold Rps at h ⊢
  obtain ⟨v,r,e,p,q⟩:=h
  exact ⟨v,r,e,Rp.write n p,Rps.write n q⟩
theorem Rpk.write {a:Addr} {u:HO} (n:O a):∀ {ds:List (List Int × D)} {vs:List (List Key × V)},Rpk K H O ds vs->Rpk K (upd H a u) O ds vs
 | [],_,h=>h
 | (_,_) :: _,_,h=>by
  unfold Rpk at h ⊢
  obtain ⟨v,r,e,p,q⟩:=h
  unfold Rpq at p ⊢
  exact ⟨v,r,e,Rp.write n p,Rpk.write n q⟩
end
mutual
theorem Rp.move (m:∀ a o,¬ O a->H a=some o->H' a=some o/\¬ O' a):∀ {d:D} {v:V},Rp K H O d v->Rp K H' O' d v
 | .non,_,h=>h
 | .bl _,_,h=>h
 | .int _,_,h=>h
 | .str _,_,h=>h
 | .tup _,_,h=>by
  unfold Rp at h ⊢
  obtain ⟨b,vs,e,no,q,r⟩:=h
  exact ⟨b,vs,e,(m _ _ no q).2,(m _ _ no q).1,Rps.move m r⟩
 | .lst _,_,h=>by
  unfold Rp at h ⊢
  obtain ⟨b,vs,e,no,q,r⟩:=h
  exact ⟨b,vs,e,(m _ _ no q).2,(m _ _ no q).1,Rps.move m r⟩
 | .dic _,_,h=>by
  unfold Rp at h ⊢
  obtain ⟨b,vs,e,no,q,r⟩:=h
  exact ⟨b,vs,e,(m _ _ no q.choose_spec).2,q.imp fun _ h=>(m _ _ no h).1,Rpk.move m r⟩
 | .scr _,_,h=>by
  unfold Rp at h ⊢
  obtain ⟨b,e,⟨no,q⟩ | q⟩:=h
  ·refine ⟨b,e,.inl ?_⟩
   rcases q with q | ⟨ob,q⟩
   ·exact ⟨(m _ _ no q).2,.inl (m _ _ no q).1⟩
   ·exact ⟨(m _ _ no q).2,.inr ⟨ob,(m _ _ no q).1⟩⟩
  ·exact ⟨b,e,.inr q⟩
theorem Rps.move (m:∀ a o,¬ O a->H a=some o->H' a=some o/\¬ O' a):∀ {ds:List D} {vs:List V},Rps K H O ds vs->Rps K H' O' ds vs
 | [],_,h=>h
 | _ :: _,_,h=>by
  unfold Rps at h ⊢
  obtain ⟨v,r,e,p,q⟩:=h
  exact ⟨v,r,e,Rp.move m p,Rps.move m q⟩
theorem Rpk.move (m:∀ a o,¬ O a->H a=some o->H' a=some o/\¬ O' a):∀ {ds:List (List Int × D)} {vs:List (List Key × V)},Rpk K H O ds vs->Rpk K H' O' ds vs
 | [],_,h=>h
 | (_,_) :: _,_,h=>by
  unfold Rpk at h ⊢
  obtain ⟨v,r,e,p,q⟩:=h
  unfold Rpq at p ⊢
  exact ⟨v,r,e,Rp.move m p,Rpk.move m q⟩
end
theorem Rps.nil:Rps K H O [] []:=rfl
theorem Rps.cons {d:D} {v:V} {ds:List D} {vs:List V} (h:Rp K H O d v) (r:Rps K H O ds vs):Rps K H O (d :: ds) (v :: vs):=by
 unfold Rps; exact ⟨v,vs,rfl,h,r⟩
theorem Rps.length:∀ {ds:List D} {vs:List V},Rps K H O ds vs->vs.length=ds.length
 | [],_,h=>by unfold Rps at h; subst h; rfl
 | _ :: _,_,h=>by
  unfold Rps at h
  obtain ⟨v,r,rfl,p,q⟩:=h
  simp [Rps.length q]
theorem Rps.get:∀ {ds:List D} {vs:List V} {i:Nat} {d:D},Rps K H O ds vs->ds[i]?=some d->∃ v,vs[i]?=some v/\Rp K H O d v
 | [],_,_,_,_,e=>by simp at e
 | _ :: _,_,0,_,h,e=>by
  unfold Rps at h
  obtain ⟨v,r,rfl,p,q⟩:=h
  simp at e; subst e
  exact ⟨v,rfl,p⟩
 | _ :: _,_,i + 1,_,h,e=>by
  unfold Rps at h
  obtain ⟨v,r,rfl,p,q⟩:=h
  simp at e
  obtain ⟨u,h1,h2⟩:=Rps.get q e
  exact ⟨u,by simpa using h1,h2⟩
theorem Rps.append:∀ {ds es:List D} {vs ws:List V},Rps K H O ds vs->Rps K H O es ws->Rps K H O (ds++es) (vs++ws)
 | [],_,_,_,h,g=>by unfold Rps at h; subst h; exact g
 | _ :: _,_,_,_,h,g=>by
  unfold Rps at h
  obtain ⟨v,r,rfl,p,q⟩:=h
  exact Rps.cons p (Rps.append q g)
theorem Rps.take:∀ {ds:List D} {vs:List V} (n:Nat),Rps K H O ds vs->Rps K H O (ds.take n) (vs.take n)
 | _,_,0,_=>by simp; exact Rps.nil
 | [],_,n + 1,h=>by unfold Rps at h; subst h; simp; exact Rps.nil
 | _ :: _,_,n + 1,h=>by
  unfold Rps at h
  obtain ⟨v,r,rfl,p,q⟩:=h
  exact Rps.cons p (Rps.take n q)
theorem Rps.drop:∀ {ds:List D} {vs:List V} (n:Nat),Rps K H O ds vs->Rps K H O (ds.drop n) (vs.drop n)
 | _,_,0,h=>by simpa using h
 | [],_,n + 1,h=>by unfold Rps at h; subst h; simp; exact Rps.nil
 | _ :: _,_,n + 1,h=>by
  unfold Rps at h
  obtain ⟨v,r,rfl,p,q⟩:=h
  simpa using Rps.drop n q
end

inductive R (α:Type) where
 | ok (a:α) | er (c:Nat) | no
noncomputable def R.bind {α β:Type}:R α->(α->R β)->R β
 | .ok a,f=>f a
 | .er c,_=>.er c
 | .no,_=>.no
instance:Monad R where
 pure:=R.ok
 bind:=R.bind
@[simp] theorem R.ok_bind {α β:Type} (a:α) (f:α->R β):(R.ok a >>= f)=f a:=rfl
@[simp] theorem R.er_bind {α β:Type} (c:Nat) (f:α->R β):(R.er c >>= f)=R.er c:=rfl
@[simp] theorem R.no_bind {α β:Type} (f:α->R β):((R.no:R α) >>= f)=R.no:=rfl
@[simp] theorem R.pure_ok {α:Type} (a:α):(pure a:R α)=R.ok a:=rfl
noncomputable def Fin {α:Type} (r:R α) (p:α->Prop) (x:Nat->Prop):Prop:=match r with
 | .ok a=>p a
 | .er c=>x c
 | .no=>False
theorem Fin.bind {α β:Type} {r:R α} {f:α->R β} {p:β->Prop} {x:Nat->Prop} (h:Fin (r >>= f) p x):Fin r (fun a=>Fin (f a) p x) x:=by
 cases r<;>exact h
theorem Fin.mono {α:Type} {r:R α} {p q:α->Prop} {x:Nat->Prop} (h:Fin r p x) (f:∀ a,p a->q a):Fin r q x:=by
 cases r with
 | ok a=>exact f a h
 | er c=>exact h
 | no=>exact h

inductive Sl where
 | un | fz (d:D) | ow (d:D)
noncomputable abbrev Ev:=List Sl
structure Fc where
 h0:Hp
 pr:Addr->Prop
 xc:Nat->Prop
noncomputable def Ow (pr:Addr->Prop) (E:Ev) (σ:St) (a:Addr):Prop:=pr a\/∃ (i:Nat) (d:D),E[i]?=some (.ow d)/\σ[i]?=some (some (.ref a))
noncomputable def Own (K:PySem.W.Frag) (H:Hp) (O:Addr->Prop):D->Addr->Prop
 | .lst ds,a=>∃ vs,H a=some (.lst vs)/\Rps K H O ds vs
 | .dic kvs,a=>∃ ws,H a=some (.dT ws)/\Rpk K H O kvs ws
 | _,_=>False
theorem Own.mono {K:PySem.W.Frag} {H H':Hp} {O O':Addr->Prop} {d:D} {a:Addr} (s:Same H H') (o:∀ a,O' a->O a) (h:Own K H O d a):Own K H' O' d a:=by
 cases d with
 | lst ds=>obtain ⟨vs,e,r⟩:=h; exact ⟨vs,s _ _ e,r.mono s o⟩
 | dic ds=>obtain ⟨vs,e,r⟩:=h; exact ⟨vs,s _ _ e,r.mono s o⟩
 | _=>exact h
noncomputable def NoTup:HO->Prop
 | .tup _=>False
 | _=>True
noncomputable def Sane (H:Hp) (O:Addr->Prop):Prop:=∀ a,O a->∃ o,H a=some o/\NoTup o
theorem Sane.fr {H:Hp} {O:Addr->Prop} (h:Sane H O) {p:Addr} (hp:H p=none):¬ O p:=fun z=>by
 obtain ⟨o,e,_⟩:=h p z
 rw [hp] at e; cases e
theorem Sane.tup {H:Hp} {O:Addr->Prop} (h:Sane H O) {p:Addr} {vs:List V} (hp:H p=some (.tup vs)):¬ O p:=fun z=>by
 obtain ⟨o,e,n⟩:=h p z
 rw [hp] at e; cases e; exact n
theorem Own.there {K:PySem.W.Frag} {H:Hp} {O:Addr->Prop} {d:D} {a:Addr} (h:Own K H O d a):∃ o,H a=some o/\NoTup o:=by
 cases d with
 | lst ds=>obtain ⟨vs,e,r⟩:=h; exact ⟨_,e,True.intro⟩
 | dic ds=>obtain ⟨vs,e,r⟩:=h; exact ⟨_,e,True.intro⟩
 | _=>exact h.elim
noncomputable def isDic:D->Bool
 | .dic _=>true
 | _=>false
theorem Own.rp {K:PySem.W.Frag} {H:Hp} {O:Addr->Prop} {d:D} {a:Addr} (h:Own K H O d a) (no:¬ O a) (hd:isDic d=false):Rp K H O d (.ref a):=by
 cases d with
 | lst ds=>obtain ⟨vs,e,r⟩:=h; unfold Rp; exact ⟨a,vs,rfl,no,e,r⟩
 | dic ds=>cases hd
 | _=>exact h.elim
section
variable {K:PySem.W.Frag} {H:Hp} {O:Addr->Prop} {a:Addr} {ob:Obj} {kvs:List (List Key × V)}
mutual
theorem Rp.tag (n:H a=some (.dT kvs)):∀ {d:D} {v:V},Rp K H O d v->Rp K (upd H a (.frz ob (.dT kvs))) O d v
 | .non,_,h=>h
 | .bl _,_,h=>h
 | .int _,_,h=>h
 | .str _,_,h=>h
 | .tup _,_,h=>by
  unfold Rp at h ⊢
  obtain ⟨b,vs,e,no,q,r⟩:=h
  exact ⟨b,vs,e,no,by rw [upd_ne (fun z=>by rw [z,n] at q; cases q)]; exact q,Rps.tag n r⟩
 | .lst _,_,h=>by
  unfold Rp at h ⊢
  obtain ⟨b,vs,e,no,q,r⟩:=h
  exact ⟨b,vs,e,no,by rw [upd_ne (fun z=>by rw [z,n] at q; cases q)]; exact q,Rps.tag n r⟩
 | .dic _,_,h=>by
  unfold Rp at h ⊢
  obtain ⟨b,vs,e,no,⟨o,q⟩,r⟩:=h
  exact ⟨b,vs,e,no,⟨o,by rw [upd_ne (fun z=>by rw [z,n] at q; cases q)]; exact q⟩,Rpk.tag n r⟩
 | .scr _,_,h=>by
  unfold Rp at h ⊢
  obtain ⟨b,e,⟨no,q⟩ | q⟩:=h
  ·refine ⟨b,e,.inl ⟨no,?_⟩⟩
   have hb:b ≠ a:=fun z=>by
    subst z
    rcases q with q | ⟨o,q⟩<;>(rw [n] at q; cases q)
   unfold Rd
   rw [upd_ne hb]; exact q
  ·exact ⟨b,e,.inr q⟩
theorem Rps.tag (n:H a=some (.dT kvs)):∀ {ds:List D} {vs:List V},Rps K H O ds vs->Rps K (upd H a (.frz ob (.dT kvs))) O ds vs
 | [],_,h=>h
 | _ :: _,_,h=>by
  unfold Rps at h ⊢
  obtain ⟨v,r,e,p,q⟩:=h
  exact ⟨v,r,e,Rp.tag n p,Rps.tag n q⟩
theorem Rpk.tag (n:H a=some (.dT kvs)):∀ {ds:List (List Int × D)} {vs:List (List Key × V)},Rpk K H O ds vs->Rpk K (upd H a (.frz ob (.dT kvs))) O ds vs
 | [],_,h=>h
 | (_,_) :: _,_,h=>by
  unfold Rpk at h ⊢
  obtain ⟨v,r,e,p,q⟩:=h
  unfold Rpq at p ⊢
  exact ⟨v,r,e,Rp.tag n p,Rpk.tag n q⟩
end
end
theorem Own.tagged {K:PySem.W.Frag} {H:Hp} {O:Addr->Prop} {ds:List (List Int × D)} {a:Addr} (h:Own K H O (.dic ds) a) (no:¬ O a):∃ ws,H a=some (.dT ws)/\∀ o,Rp K (upd H a (.frz o (.dT ws))) O (.dic ds) (.ref a):=by
 obtain ⟨ws,e,r⟩:=h
 refine ⟨ws,e,fun o=>?_⟩
 unfold Rp
 exact ⟨a,ws,rfl,no,⟨o,upd_same⟩,r.tag e⟩
structure Rel (K:PySem.W.Frag) (G:Fc) (E:Ev) (σ:St) (H:Hp):Prop where
 len:E.length=σ.length
 fz:∀ (i:Nat) d,E[i]?=some (.fz d)->∃ v,σ[i]?=some (some v)/\Rp K H (Ow G.pr E σ) d v
 ow:∀ (i:Nat) d,E[i]?=some (.ow d)->∃ a,σ[i]?=some (some (.ref a))/\Own K H (Ow G.pr E σ) d a/\G.h0 a=none
 ne:∀ (i j:Nat) d e a,E[i]?=some (.ow d)->E[j]?=some (.ow e)->σ[i]?=some (some (.ref a))->σ[j]?=some (some (.ref a))->i=j
 base:Same G.h0 H
 prt:∀ a,G.pr a->∃ o,G.h0 a=some o/\NoTup o
section
variable {K:PySem.W.Frag} {G:Fc} {E:Ev} {σ:St} {H H':Hp}
theorem Rel.same (r:Rel K G E σ H) (s:Same H H'):Rel K G E σ H' where
 len:=r.len
 fz:=fun i d e=>by obtain ⟨v,h1,h2⟩:=r.fz i d e; exact ⟨v,h1,h2.mono s fun _ z=>z⟩
 ow:=fun i d e=>by obtain ⟨a,h1,h2,h3⟩:=r.ow i d e; exact ⟨a,h1,h2.mono s fun _ z=>z,h3⟩
 ne:=r.ne
 base:=r.base.trans s
 prt:=r.prt
theorem Rel.owned (r:Rel K G E σ H) {a:Addr} (h:Ow G.pr E σ a):∃ o,H a=some o/\NoTup o:=by
 rcases h with h | ⟨i,d,h1,h2⟩
 ·obtain ⟨o,e,n⟩:=r.prt a h
  exact ⟨o,r.base _ _ e,n⟩
 ·obtain ⟨b,e1,e2,_⟩:=r.ow i d h1
  rw [h2] at e1; cases e1
  exact e2.there
theorem Rel.fresh (r:Rel K G E σ H) {a:Addr} (h:H a=none):¬ Ow G.pr E σ a:=fun z=>by
 obtain ⟨o,e,_⟩:=r.owned z
 rw [h] at e; cases e
theorem Rel.sane (r:Rel K G E σ H):Sane H (Ow G.pr E σ):=fun a h=>r.owned h
end
theorem same_upd {H:Hp} {p:Addr} {o:HO} (h:H p=none):Same H (upd H p o):=fun b u e=>by
 rw [upd_ne (ne_of_none e h)]; exact e

noncomputable def Rt (K:PySem.W.Frag) (H:Hp) (O:Addr->Prop) (d:D) (v:V):Prop:=Rp K H O d v\/∃ a,v=.ref a/\Own K H O d a
theorem Rt.mono {K:PySem.W.Frag} {H H':Hp} {O O':Addr->Prop} {d:D} {v:V} (s:Same H H') (o:∀ a,O' a->O a) (h:Rt K H O d v):Rt K H' O' d v:=by
 rcases h with h | ⟨a,e,h⟩
 ·exact .inl (h.mono s o)
 ·exact .inr ⟨a,e,h.mono s o⟩
section
variable {K:PySem.W.Frag} {H:Hp} {O:Addr->Prop} {v:V}
theorem Rt.int {i:Int} (h:Rt K H O (.int i) v):v=.int i:=by
 rcases h with h | ⟨a,e,h⟩
 ·exact h
 ·exact h.elim
theorem Rt.bl {i:Bool} (h:Rt K H O (.bl i) v):v=.bl i:=by
 rcases h with h | ⟨a,e,h⟩
 ·exact h
 ·exact h.elim
theorem Rt.str {i:Str} (h:Rt K H O (.str i) v):v=.str i:=by
 rcases h with h | ⟨a,e,h⟩
 ·exact h
 ·exact h.elim
theorem Rt.non (h:Rt K H O .non v):v=.non:=by
 rcases h with h | ⟨a,e,h⟩
 ·exact h
 ·exact h.elim
theorem Rt.lst {ds:List D} (h:Rt K H O (.lst ds) v):∃ a vs,v=.ref a/\H a=some (.lst vs)/\Rps K H O ds vs:=by
 rcases h with h | ⟨a,e,vs,q,r⟩
 ·unfold Rp at h
  obtain ⟨a,vs,e,_,q,r⟩:=h
  exact ⟨a,vs,e,q,r⟩
 ·exact ⟨a,vs,e,q,r⟩
theorem Rt.tup {ds:List D} (h:Rt K H O (.tup ds) v):∃ a vs,v=.ref a/\H a=some (.tup vs)/\Rps K H O ds vs:=by
 rcases h with h | ⟨a,e,h⟩
 ·unfold Rp at h
  obtain ⟨a,vs,e,_,q,r⟩:=h
  exact ⟨a,vs,e,q,r⟩
 ·exact h.elim
theorem Rt.dic {ds:List (List Int × D)} (h:Rt K H O (.dic ds) v):∃ a vs,v=.ref a/\Rd H a (.dT vs)/\Rpk K H O ds vs:=by
 rcases h with h | ⟨a,e,vs,q,r⟩
 ·unfold Rp at h
  obtain ⟨a,vs,e,_,q,r⟩:=h
  exact ⟨a,vs,e,.inr q,r⟩
 ·exact ⟨a,vs,e,.inl q,r⟩
end

noncomputable abbrev EV:=Ev->R D
inductive Out where
 | nx (E:Ev) | bk (E:Ev) | ct (E:Ev) | rt (d:D)
noncomputable abbrev EX:=Ev->R Out

noncomputable def SE (X:Cx) (G:Fc) (e:Expr) (m:EV):Prop :=
 PE X e fun σ H Q=>∃ E,Rel X.K G E σ H/\Fin (m E) (fun d=>∀ v H',Same H H'->Rt X.K H' (Ow G.pr E σ) d v->Q v H') G.xc
noncomputable def SF (X:Cx) (G:Fc) (e:Expr) (m:EV):Prop :=
 PE X e fun σ H Q=>∃ E,Rel X.K G E σ H/\Fin (m E) (fun d=>∀ v H',Same H H'->Rp X.K H' (Ow G.pr E σ) d v->Q v H') G.xc
noncomputable def SN (X:Cx) (G:Fc) (e:Expr) (m:EV):Prop :=
 PE X e fun σ H Q=>∃ E,Rel X.K G E σ H/\Fin (m E) (fun d=>∀ a H',Same H H'->H a=none->Own X.K H' (fun b=>Ow G.pr E σ b\/b=a) d a->Q (.ref a) H') G.xc
noncomputable def ST (X:Cx) (G:Fc) (e:Expr) (m:Ev->R Bool):Prop :=
 PT X e fun σ H Q=>∃ E,Rel X.K G E σ H/\Fin (m E) (fun b=>∀ H',Same H H'->Q b H') G.xc
noncomputable def SA (X:Cx) (G:Fc) (es:List Expr) (m:Ev->R (List D)):Prop :=
 PA X es fun σ H Q=>∃ E,Rel X.K G E σ H/\Fin (m E) (fun ds=>∀ vs H',Same H H'->Rps X.K H' (Ow G.pr E σ) ds vs->Q vs H') G.xc
noncomputable def OutOk (K:PySem.W.Frag) (G:Fc) (Dn:Ends):Out->Prop
 | .nx E=>∀ σ H,Rel K G E σ H->Dn.nx σ H
 | .bk E=>∀ σ H,Rel K G E σ H->Dn.bk σ H
 | .ct E=>∀ σ H,Rel K G E σ H->Dn.ct σ H
 | .rt d=>∀ v H,Same G.h0 H->Rp K H G.pr d v->Dn.rt v H
noncomputable def SS (X:Cx) (G:Fc) (st:Stmt) (m:EX):Prop :=
 PS X st fun Dn σ H=>∃ E,Rel X.K G E σ H/\Fin (m E) (OutOk X.K G Dn) G.xc
noncomputable def SB (X:Cx) (G:Fc) (st:List Stmt) (m:EX):Prop :=
 PSs X st fun Dn σ H=>∃ E,Rel X.K G E σ H/\Fin (m E) (OutOk X.K G Dn) G.xc

theorem _root_.L2.PE.imp {X:Cx} {e:Expr} {t t':TE} (h:PE X e t) (i:∀ σ H Q,t' σ H Q->t σ H Q):PE X e t':=fun pins s σ H Q I q=>h pins s σ H Q I (i σ H Q q)
theorem _root_.L2.PT.imp {X:Cx} {e:Expr} {t t':TT} (h:PT X e t) (i:∀ σ H Q,t' σ H Q->t σ H Q):PT X e t':=fun pins s σ H Q I q=>h pins s σ H Q I (i σ H Q q)
theorem _root_.L2.PA.imp {X:Cx} {e:List Expr} {t t':TA} (h:PA X e t) (i:∀ σ H Q,t' σ H Q->t σ H Q):PA X e t':=fun pos pins s σ H Q I q=>h pos pins s σ H Q I (i σ H Q q)
theorem _root_.L2.PS.imp {X:Cx} {e:Stmt} {t t':TS} (h:PS X e t) (i:∀ D σ H,t' D σ H->t D σ H):PS X e t':=fun pins s σ H Q I q=>h pins s σ H Q I (i Q σ H q)
theorem _root_.L2.PSs.imp {X:Cx} {e:List Stmt} {t t':TS} (h:PSs X e t) (i:∀ D σ H,t' D σ H->t D σ H):PSs X e t':=fun pins s σ H Q I q=>h pins s σ H Q I (i Q σ H q)

section
variable {X:Cx} {G:Fc} {e:Expr} {m:EV}
theorem SF.se (h:SF X G e m):SE X G e m:=PE.imp h fun σ H Q ⟨E,r,f⟩=>⟨E,r,f.mono fun d q v H' s p=>q v H' s (.inl p)⟩
theorem SN.sf (h:SN X G e m):SF X G e m:=PE.imp (pe_tag h) fun σ H Q ⟨E,r,f⟩=>⟨E,r,f.mono fun d q a H' s n p=>by
 have p':=p.mono (O':=Ow G.pr E σ) (Same.refl _) fun _ z=>.inl z
 cases hd:isDic d with
 | false=>exact .inl (q (.ref a) H' s (p'.rp (r.fresh n) hd))
 | true =>
  cases d with
  | dic ds =>
   obtain ⟨ws,e,z⟩:=p'.tagged (r.fresh n)
   exact .inr ⟨a,ws,rfl,e,fun o=>q (.ref a) _ (fun b u hb=>by rw [upd_ne (ne_of_none hb n)]; exact s _ _ hb) (z o)⟩
  | _=>cases hd⟩
theorem SN.se (h:SN X G e m):SE X G e m:=h.sf.se
theorem rt_grow {K:PySem.W.Frag} {H H':Hp} {O:Addr->Prop} {d:D} {v:V} (h:Rt K H O d v) (s:Same H H'):Rt K H' O d v:=h.mono s fun _ z=>z
end
end M

set_option Elab.async false
set_option linter.all false
set_option maxRecDepth 100000
namespace M
open PySem PySem.Spec PyProof.Rows L2

noncomputable def ofO {α:Type}:Option α->R α
 | some a=>.ok a
 | none=>.no
@[simp] theorem ofO_some {α:Type} (a:α):ofO (some a)=.ok a:=rfl
@[simp] theorem ofO_none {α:Type}:ofO (none:Option α)=.no:=rfl
theorem Fin.of {α:Type} {o:Option α} {p:α->Prop} {x:Nat->Prop} (h:Fin (ofO o) p x):∃ a,o=some a/\p a:=by
 cases o with
 | none=>exact h.elim
 | some a=>exact ⟨a,rfl,h⟩

noncomputable def vE (i:Nat):EV:=fun E=>match E[i]? with
 | some (.fz d)=>.ok d
 | some (.ow d)=>.ok d
 | _=>.no
noncomputable def vF (i:Nat):EV:=fun E=>match E[i]? with
 | some (.fz d)=>.ok d
 | _=>.no
noncomputable def kE (d:D):EV:=fun _=>.ok d
noncomputable def e1 (f:D->Option D) (a:EV):EV:=fun E=>a E >>= fun x=>ofO (f x)
noncomputable def e2 (f:D->D->Option D) (a b:EV):EV:=fun E=>a E >>= fun x=>b E >>= fun y=>ofO (f x y)
noncomputable def aNil:Ev->R (List D):=fun _=>.ok []
noncomputable def aCons (a:EV) (r:Ev->R (List D)):Ev->R (List D):=fun E=>a E >>= fun x=>r E >>= fun xs=>.ok (x :: xs)
noncomputable def tstB (a:EV):Ev->R Bool:=fun E=>a E >>= fun d=>match d with
 | .bl b=>.ok b
 | _=>.no

section
variable {X:Cx} {G:Fc}

theorem se_var (i:Nat) {x:Str} {pos:Pos} (hN:X.N[i]?=some x:=by rfl) (hv:Vis X.env.scope x:=by first | exact Or.inl rfl | exact Or.inr (Or.inl rfl) | exact Or.inr (Or.inr rfl)) (hd:(x == ("__debug__":Str))=false:=by decide)
  (hcd:(x == ("__classdict__":Str))=false:=by decide):SE X G (.Name x pos) (vE i):=(pe_var hN hv hd hcd).imp fun σ H Q z0=>z0.elim fun E z0=>z0.elim fun r f=>by
 unfold vE at f
 revert f
 cases h:E[i]? with
 | none=>exact fun f=>f.elim
 | some sl =>
  cases sl with
  | un=>exact fun f=>f.elim
  | fz d=>exact fun f=>by obtain ⟨v,e,p⟩:=r.fz i d h; exact ⟨v,e,f v H (Same.refl _) (.inl p)⟩
  | ow d=>exact fun f=>by obtain ⟨a,e,p,_⟩:=r.ow i d h; exact ⟨_,e,f _ H (Same.refl _) (.inr ⟨a,rfl,p⟩)⟩
theorem sf_var (i:Nat) {x:Str} {pos:Pos} (hN:X.N[i]?=some x:=by rfl) (hv:Vis X.env.scope x:=by first | exact Or.inl rfl | exact Or.inr (Or.inl rfl) | exact Or.inr (Or.inr rfl)) (hd:(x == ("__debug__":Str))=false:=by decide)
  (hcd:(x == ("__classdict__":Str))=false:=by decide):SF X G (.Name x pos) (vF i):=(pe_var hN hv hd hcd).imp fun σ H Q z0=>z0.elim fun E z0=>z0.elim fun r f=>by
 unfold vF at f
 revert f
 cases h:E[i]? with
 | none=>exact fun f=>f.elim
 | some sl =>
  cases sl with
  | un=>exact fun f=>f.elim
  | fz d=>exact fun f=>by obtain ⟨v,e,p⟩:=r.fz i d h; exact ⟨v,e,f v H (Same.refl _) p⟩
  | ow d=>exact fun f=>f.elim
theorem sf_int {i j pos}:SF X G (.Constant (.int i) j pos) (kE (.int i)):=pe_int.imp fun σ H Q z0=>z0.elim fun E z0=>z0.elim fun r f=>f _ H (Same.refl _) rfl
theorem sf_bl {i j pos}:SF X G (.Constant (.bool i) j pos) (kE (.bl i)):=pe_bl.imp fun σ H Q z0=>z0.elim fun E z0=>z0.elim fun r f=>f _ H (Same.refl _) rfl
theorem sf_str {i j pos}:SF X G (.Constant (.str i) j pos) (kE (.str i)):=pe_str.imp fun σ H Q z0=>z0.elim fun E z0=>z0.elim fun r f=>f _ H (Same.refl _) rfl
theorem sf_glob {x:Str} {i:Int} {u:Value} {pos:Pos} (hg:Gl X x) (hm:X.mg x=some u) (r:RelV (.int i) u) (hd:(x == ("__debug__":Str))=false:=by decide):SF X G (.Name x pos) (kE (.int i)) :=
 (pe_glob hg hm r hd).imp fun σ H Q z0=>z0.elim fun E z0=>z0.elim fun r f=>f _ H (Same.refl _) rfl

noncomputable def OpD (K:PySem.W.Frag) (r:R2) (f:D->D->Option D):Prop :=
 ∀ (H:Hp) (O:Addr->Prop) (dx dy d:D) (v w:V) (Q:VK),Sane H O->f dx dy=some d->Rt K H O dx v->Rt K H O dy w->(∀ u H',Same H H'->Rp K H' O d u->Q u H')->r v w H Q
theorem two {r:R2} {f:D->D->Option D} {ma mb:EV} {a b:Expr} {P:D->Prop} {σ:St} {H:Hp} {Q:VK} {E:Ev} (hr:Rel X.K G E σ H) (h:Fin (e2 f ma mb E) P G.xc)
  (k:∀ (H2:Hp) (dx dy d:D) (v w:V),Same H H2->f dx dy=some d->P d->Rt X.K H2 (Ow G.pr E σ) dx v->Rt X.K H2 (Ow G.pr E σ) dy w->r v w H2 Q) :
  tOp r (fun σ H Q=>∃ E,Rel X.K G E σ H/\Fin (ma E) (fun d=>∀ v H',Same H H'->Rt X.K H' (Ow G.pr E σ) d v->Q v H') G.xc)
   (fun σ H Q=>∃ E,Rel X.K G E σ H/\Fin (mb E) (fun d=>∀ v H',Same H H'->Rt X.K H' (Ow G.pr E σ) d v->Q v H') G.xc) σ H Q:=by
 refine ⟨E,hr,(Fin.bind h).mono fun dx fx v H1 s1 p1=>⟨E,hr.same s1,(Fin.bind fx).mono fun dy fy w H2 s2 p2=>?_⟩⟩
 obtain ⟨d,e,q⟩:=Fin.of fy
 exact k H2 dx dy d v w (s1.trans s2) e q (rt_grow p1 s2) p2
section
variable {a b:Expr} {ma mb:EV} {pos:Pos} {f:D->D->Option D} {r:R2}
theorem sf_bin {op:Operator} (ho:OpR X (binaryOp op) r) (hf:OpD X.K r f) (ha:SE X G a ma) (hb:SE X G b mb):SF X G (.BinOp a op b pos) (e2 f ma mb) :=
 (pe_op ho ha hb).imp fun σ H Q z0=>z0.elim fun E z0=>z0.elim fun hr h=>two (a:=a) (b:=b) hr h fun H2 dx dy d v w s e p rv rw=>hf H2 _ dx dy d v w Q (hr.same s).sane e rv rw fun u H' s' z=>p u H' (s.trans s') z
theorem sf_cmp {op:CmpOp} (ho:OpR X (compareOp op) r) (hf:OpD X.K r f) (ha:SE X G a ma) (hb:SE X G b mb) (hm:behindInMarks op b=false):SF X G (.Compare a [op] [b] pos) (e2 f ma mb) :=
 (pe_cmpR ho ha hb hm).imp fun σ H Q z0=>z0.elim fun E z0=>z0.elim fun hr h=>two (a:=a) (b:=b) hr h fun H2 dx dy d v w s e p rv rw=>hf H2 _ dx dy d v w Q (hr.same s).sane e rv rw fun u H' s' z=>p u H' (s.trans s') z
theorem sf_ix (hs:PlainIx b) (ho:IxR X r) (hf:OpD X.K r f) (ha:SE X G a ma) (hb:SE X G b mb):SF X G (.Subscript a b pos) (e2 f ma mb) :=
 (pe_ix ho ha hb hs).imp fun σ H Q z0=>z0.elim fun E z0=>z0.elim fun hr h=>two (a:=a) (b:=b) hr h fun H2 dx dy d v w s e p rv rw=>hf H2 _ dx dy d v w Q (hr.same s).sane e rv rw fun u H' s' z=>p u H' (s.trans s') z
theorem st_cmp {op:CmpOp} (ho:OpR X (compareOp op) r) (hf:OpD X.K r f) (ha:SE X G a ma) (hb:SE X G b mb) (hm:behindInMarks op b=false):ST X G (.Compare a [op] [b] pos) (tstB (e2 f ma mb)) :=
 (pt_cmpR ho ha hb hm).imp fun σ H Q z0=>z0.elim fun E z0=>z0.elim fun hr h=>by
  refine two (a:=a) (b:=b) (P:=fun d=>Fin (match d with | .bl b=>R.ok b | _=>.no) (fun b=>∀ H',Same H H'->Q b H') G.xc) hr (Fin.bind h) fun H2 dx dy d v w s e p rv rw=>hf H2 _ dx dy d v w _ (hr.same s).sane e rv rw fun u H' s' z=>?_
  cases d with
  | bl k=>exact ⟨k,z,p H' (s.trans s')⟩
  | _=>exact p.elim
theorem st_val {e:Expr} {m:EV} (h:SE X G e m) (he:∀ whole,isTrue e X.env whole=(do let v ← whole; standAt e.pos; holding [v] (truthy v)):=by intro _; rfl):ST X G e (tstB m) :=
 (pt_val h he).imp fun σ H Q z0=>z0.elim fun E z0=>z0.elim fun hr f=>⟨E,hr,(Fin.bind f).mono fun d p v H' s z=>by
  cases d with
  | bl k=>exact ⟨k,z.bl,p H' s⟩
  | _=>exact p.elim⟩
end

noncomputable def truD:D->Option Bool
 | .non=>some false
 | .bl b=>some b
 | .int i=>some (i != 0)
 | .lst ds=>some (!ds.isEmpty)
 | .tup ds=>some (!ds.isEmpty)
 | _=>none
noncomputable def tstV (a:EV):Ev->R Bool:=fun E=>a E >>= fun d=>ofO (truD d)

section
variable {a b c:Expr} {ma mb:EV} {pos:Pos} {ta tb tc:Ev->R Bool} {rest:List Expr}
noncomputable def bAnd (t u:Ev->R Bool):Ev->R Bool:=fun E=>t E >>= fun k=>if k=true then u E else .ok false
noncomputable def bOr (t u:Ev->R Bool):Ev->R Bool:=fun E=>t E >>= fun k=>if k=true then .ok true else u E
noncomputable def bNot (t:Ev->R Bool):Ev->R Bool:=fun E=>t E >>= fun k=>.ok (!k)
noncomputable def SW (X:Cx) (G:Fc) (e:Expr) (m:Ev->R Bool):Prop :=
 PW X e fun σ H Q=>∃ E,Rel X.K G E σ H/\Fin (m E) (fun b=>∀ H',Same H H'->Q b H') G.xc
theorem SW.st {m:Ev->R Bool} (h:SW X G a m):ST X G a m:=PW.pt h
theorem sw_and1 (ha:ST X G a ta):SW X G (.BoolOp .And [a] pos) ta:=pw_and1 ha
theorem sw_or1 (ha:ST X G a ta):SW X G (.BoolOp .Or [a] pos) ta:=pw_or1 ha
theorem sw_and (ha:ST X G a ta) (hb:SW X G (.BoolOp .And (b :: rest) pos) tb):SW X G (.BoolOp .And (a :: b :: rest) pos) (bAnd ta tb):=by
 rintro wh pins s σ H Q I ⟨E,hr,f⟩
 refine pw_and ha hb wh pins s σ H Q I ⟨E,hr,(Fin.bind f).mono fun k p H' s'=>?_⟩
 cases k with
 | true=>exact ⟨E,hr.same s',Fin.mono p fun b q H2 s2=>q H2 (s'.trans s2)⟩
 | false=>exact p H' s'
theorem sw_or (ha:ST X G a ta) (hb:SW X G (.BoolOp .Or (b :: rest) pos) tb):SW X G (.BoolOp .Or (a :: b :: rest) pos) (bOr ta tb):=by
 rintro wh pins s σ H Q I ⟨E,hr,f⟩
 refine pw_or ha hb wh pins s σ H Q I ⟨E,hr,(Fin.bind f).mono fun k p H' s'=>?_⟩
 cases k with
 | false=>exact ⟨E,hr.same s',Fin.mono p fun b q H2 s2=>q H2 (s'.trans s2)⟩
 | true=>exact p H' s'
theorem st_not (ha:ST X G a ta):ST X G (.UnaryOp .Not a pos) (bNot ta):=(pt_not ha).imp fun σ H Q ⟨E,hr,f⟩=>⟨E,hr,(Fin.bind f).mono fun k p H' s=>p H' s⟩
noncomputable def eAnd (t u:EV):EV:=fun E=>t E >>= fun d=>match d with
 | .bl true=>u E
 | .bl false=>.ok (.bl false)
 | _=>.no
noncomputable def eOr (t u:EV):EV:=fun E=>t E >>= fun d=>match d with
 | .bl true=>.ok (.bl true)
 | .bl false=>u E
 | _=>.no
noncomputable def eNot (t:EV):EV:=fun E=>t E >>= fun d=>match d with
 | .bl k=>.ok (.bl (!k))
 | _=>.no
theorem sf_one {op} (ha:SF X G a ma):SF X G (.BoolOp op [a] pos) ma:=pe_one ha
theorem sf_and (ha:SF X G a ma) (hb:SF X G (.BoolOp .And (b :: rest) pos) mb):SF X G (.BoolOp .And (a :: b :: rest) pos) (eAnd ma mb) :=
 (pe_and ha hb).imp fun σ H Q z0=>z0.elim fun E z0=>z0.elim fun hr f=>⟨E,hr,(Fin.bind f).mono fun d p v H' s z=>by
  cases d with
  | bl k =>
   refine ⟨k,z,?_⟩
   cases k with
   | true=>exact ⟨E,hr.same s,Fin.mono p fun b q u H2 s2 y=>q u H2 (s.trans s2) y⟩
   | false=>exact p _ H' s rfl
  | _=>exact p.elim⟩
noncomputable def eIf (t:Ev->R Bool) (a b:EV):EV:=fun E=>t E >>= fun k=>if k=true then a E else b E
end

section
variable {e:Expr} {es:List Expr} {m:EV} {t:Ev->R (List D)} {pos:Pos}
theorem sa_nil:SA X G [] aNil:=pa_nil.imp fun σ H Q z0=>z0.elim fun E z0=>z0.elim fun hr f=>f [] H (Same.refl _) rfl
theorem sa_cons (he:SF X G e m) (hr:SA X G es t) (hs:starEach (e :: es) X.env=(false,eval e X.env) :: starEach es X.env:=by rfl):SA X G (e :: es) (aCons m t) :=
 (pa_cons he hr hs).imp fun σ H Q ⟨E,hr,f⟩=>⟨E,hr,(Fin.bind f).mono fun d fx v H1 s1 p1=>⟨E,hr.same s1,(Fin.bind fx).mono fun ds fy vs H2 s2 p2 =>
  fy (v :: vs) H2 (s1.trans s2) (Rps.cons (p1.mono s2 fun _ z=>z) p2)⟩⟩
noncomputable def eTup (t:Ev->R (List D)):EV:=fun E=>t E >>= fun ds=>if ds.length<=1000 then .ok (.tup ds) else .no
noncomputable def eLst (t:Ev->R (List D)):EV:=fun E=>t E >>= fun ds=>if ds.length<=1000 then .ok (.lst ds) else .no
theorem sf_tup {x1} (h:SA X G es t):SF X G (.Tuple es x1 pos) (eTup t) :=
 (pe_tup h).imp fun σ H Q z0=>z0.elim fun E z0=>z0.elim fun hr f=>⟨E,hr,(Fin.bind f).mono fun ds fx vs H1 s1 p1=>by
  by_cases hl:ds.length<=1000
  ·rw [if_pos hl] at fx
   refine ⟨by rw [p1.length]; exact Nat.le_of_lt (small1000 hl),fun p hp=>fx _ _ (s1.trans (same_upd hp)) ?_⟩
   unfold Rp
   exact ⟨p,vs,rfl,(hr.same s1).fresh hp,upd_same,p1.mono (same_upd hp) fun _ z=>z⟩
  ·rw [if_neg hl] at fx; exact fx.elim⟩
theorem sn_lst (h:SA X G es t):SN X G (.List es pos) (eLst t) :=
 (pe_lst h).imp fun σ H Q z0=>z0.elim fun E z0=>z0.elim fun hr f=>⟨E,hr,(Fin.bind f).mono fun ds fx vs H1 s1 p1=>by
  by_cases hl:ds.length<=1000
  ·rw [if_pos hl] at fx
   refine ⟨by rw [p1.length]; exact Nat.le_of_lt (small1000 hl),fun p hp=>fx _ _ (s1.trans (same_upd hp)) ?_ ?_⟩
   ·cases q:H p with
    | none=>rfl
    | some o=>rw [s1 _ _ q] at hp; cases hp
   exact ⟨vs,upd_same,(p1.fresh hp).mono (same_upd hp) fun _ z=>z⟩
  ·rw [if_neg hl] at fx; exact fx.elim⟩
theorem sn_dic:SN X G (.Dict [] [] pos) (kE (.dic [])):=pe_dnewT.imp fun σ H Q z0=>z0.elim fun E z0=>z0.elim fun hr f=>fun p hp=>f p _ (same_upd hp) hp ⟨[],upd_same,rfl⟩
end
end
end M

set_option Elab.async false
set_option linter.all false
set_option maxRecDepth 100000
namespace M
open PySem PySem.Spec PyProof.Rows L2

noncomputable def b2i (b:Bool):Int:=if b=true then 1 else 0
mutual
noncomputable def pl:Nat->D->Bool
 | _,.non=>true
 | _,.bl _=>true
 | _,.int _=>true
 | _,.str _=>true
 | 0,.tup _=>false
 | 0,.lst _=>false
 | n + 1,.tup ds=>pls n ds
 | n + 1,.lst ds=>pls n ds
 | _,_=>false
noncomputable def pls:Nat->List D->Bool
 | _,[]=>true
 | n,d :: ds=>pl n d && pls n ds
end
mutual
noncomputable def eqb:D->D->Bool
 | .non,.non=>true
 | .bl a,.bl b=>a == b
 | .int a,.int b=>a == b
 | .bl a,.int b=>b2i a == b
 | .int a,.bl b=>a == b2i b
 | .str a,.str b=>a == b
 | .tup as,.tup bs=>eqbs as bs
 | .lst as,.lst bs=>eqbs as bs
 | _,_=>false
noncomputable def eqbs:List D->List D->Bool
 | [],[]=>true
 | a :: as,b :: bs=>eqb a b && eqbs as bs
 | _,_=>false
end
mutual
theorem eqb_refl:∀ (n:Nat) (d:D),pl n d=true->eqb d d=true
 | _,.non,_=>by simp [eqb]
 | _,.bl _,_=>by simp [eqb]
 | _,.int _,_=>by simp [eqb]
 | _,.str _,_=>by simp [eqb]
 | 0,.tup _,h=>by simp [pl] at h
 | 0,.lst _,h=>by simp [pl] at h
 | n + 1,.tup ds,h=>by rw [eqb]; rw [pl] at h; exact eqbs_refl n ds h
 | n + 1,.lst ds,h=>by rw [eqb]; rw [pl] at h; exact eqbs_refl n ds h
 | _,.dic _,h=>by simp [pl] at h
 | _,.scr _,h=>by simp [pl] at h
theorem eqbs_refl:∀ (n:Nat) (ds:List D),pls n ds=true->eqbs ds ds=true
 | _,[],_=>by simp [eqbs]
 | n,d :: ds,h=>by
  rw [pls,Bool.and_eq_true] at h
  rw [eqbs,eqb_refl n d h.1,eqbs_refl n ds h.2]; rfl
end
section
variable {K:PySem.W.Frag} {H:Hp} {O:Addr->Prop}
noncomputable abbrev NoO:Addr->Prop:=fun _=>False
theorem Rt.any {d:D} {v:V} {n:Nat} (h:Rt K H O d v) (hp:pl n d=true):Rp K H NoO d v:=by
 rcases h with h | ⟨a,rfl,h⟩
 ·exact h.mono (Same.refl _) fun _ z=>z.elim
 ·refine (h.mono (Same.refl _) fun _ z=>z.elim).rp (fun z=>z) ?_
  cases d with
  | dic ds=>simp [pl] at hp
  | _=>rfl
mutual
theorem Rp.inj:∀ {n m:Nat} {d d':D} {v:V},pl n d=true->pl m d'=true->Rp K H O d v->Rp K H O d' v->d=d'
 | n,m,.non,d',v,h,h',r,r'=>by
  unfold Rp at r; subst r
  cases d'<;>unfold Rp at r'<;>first | rfl | (cases r'; done) | (obtain ⟨_,_,e,_⟩:=r'; cases e) | (obtain ⟨_,e,_⟩:=r'; cases e)
 | n,m,.bl b,d',v,h,h',r,r'=>by
  unfold Rp at r; subst r
  cases d'<;>unfold Rp at r'<;>first | (cases r'; rfl) | (cases r'; done) | (obtain ⟨_,_,e,_⟩:=r'; cases e) | (obtain ⟨_,e,_⟩:=r'; cases e)
 | n,m,.int b,d',v,h,h',r,r'=>by
  unfold Rp at r; subst r
  cases d'<;>unfold Rp at r'<;>first | (cases r'; rfl) | (cases r'; done) | (obtain ⟨_,_,e,_⟩:=r'; cases e) | (obtain ⟨_,e,_⟩:=r'; cases e)
 | n,m,.str b,d',v,h,h',r,r'=>by
  unfold Rp at r; subst r
  cases d'<;>unfold Rp at r'<;>first | (cases r'; rfl) | (cases r'; done) | (obtain ⟨_,_,e,_⟩:=r'; cases e) | (obtain ⟨_,e,_⟩:=r'; cases e)
 | n,m,.tup ds,d',v,h,h',r,r'=>by
  unfold Rp at r
  obtain ⟨a,vs,rfl,_,q,rs⟩:=r
  cases n with
  | zero=>simp [pl] at h
  | succ n =>
  cases d' with
  | tup ds' =>
   cases m with
   | zero=>simp [pl] at h'
   | succ m =>
   unfold Rp at r'
   obtain ⟨b,ws,e,_,q',rs'⟩:=r'
   cases e
   rw [q] at q'; cases q'
   rw [pl] at h h'
   rw [Rps.inj h h' rs rs']
  | lst ds'=>unfold Rp at r'; obtain ⟨b,ws,e,_,q',rs'⟩:=r'; cases e; rw [q] at q'; cases q'
  | dic _=>simp [pl] at h'
  | scr _=>simp [pl] at h'
  | _=>unfold Rp at r'; cases r'
 | n,m,.lst ds,d',v,h,h',r,r'=>by
  unfold Rp at r
  obtain ⟨a,vs,rfl,_,q,rs⟩:=r
  cases n with
  | zero=>simp [pl] at h
  | succ n =>
  cases d' with
  | lst ds' =>
   cases m with
   | zero=>simp [pl] at h'
   | succ m =>
   unfold Rp at r'
   obtain ⟨b,ws,e,_,q',rs'⟩:=r'
   cases e
   rw [q] at q'; cases q'
   rw [pl] at h h'
   rw [Rps.inj h h' rs rs']
  | tup ds'=>unfold Rp at r'; obtain ⟨b,ws,e,_,q',rs'⟩:=r'; cases e; rw [q] at q'; cases q'
  | dic _=>simp [pl] at h'
  | scr _=>simp [pl] at h'
  | _=>unfold Rp at r'; cases r'
 | n,m,.dic ds,d',v,h,h',r,r'=>by simp [pl] at h
 | n,m,.scr ds,d',v,h,h',r,r'=>by simp [pl] at h
theorem Rps.inj:∀ {n m:Nat} {ds ds':List D} {vs:List V},pls n ds=true->pls m ds'=true->Rps K H O ds vs->Rps K H O ds' vs->ds=ds'
 | n,m,[],ds',vs,h,h',r,r'=>by
  unfold Rps at r; subst r
  cases ds' with
  | nil=>rfl
  | cons _ _=>unfold Rps at r'; obtain ⟨_,_,e,_⟩:=r'; cases e
 | n,m,d :: ds,ds',vs,h,h',r,r'=>by
  unfold Rps at r
  obtain ⟨v,rr,rfl,p,q⟩:=r
  cases ds' with
  | nil=>unfold Rps at r'; cases r'
  | cons d' ds' =>
   unfold Rps at r'
   obtain ⟨v',rr',e,p',q'⟩:=r'
   cases e
   rw [pls,Bool.and_eq_true] at h h'
   rw [Rp.inj h.1 h'.1 p p',Rps.inj h.2 h'.2 q q']
end
end

theorem eqbs_len:∀ {as bs:List D},as.length ≠ bs.length->eqbs as bs=false
 | [],[],h=>absurd rfl h
 | [],_ :: _,_=>by simp [eqbs]
 | _ :: _,[],_=>by simp [eqbs]
 | a :: as,b :: bs,h=>by
  rw [eqbs,eqbs_len (fun z=>h (by simp [z]))]; simp
theorem eqbs_range:∀ {as bs:List D},as.length=bs.length->eqbs as bs=(List.range as.length).all fun i=>eqb (as.getD i .non) (bs.getD i .non)
 | [],[],_=>by simp [eqbs]
 | a :: as,b :: bs,h=>by
  rw [eqbs,eqbs_range (by simpa using h)]
  simp only [List.length_cons,List.range_succ_eq_map,List.all_cons,List.all_map]
  rfl
 | [],_ :: _,h=>by simp at h
 | _ :: _,[],h=>by simp at h

section
variable {X:Cx} {pins:List (Addr × Obj)} {σ:St} {H:Hp} {s:Shared} {O:Addr->Prop}
theorem rps_at {ds:List D} {vs:List V} {its:List Value} (r:Rps X.K H O ds vs) (q:Vals vs its) (j:Nat) (h:j < its.length):∃ v,Rp X.K H O (ds.getD j .non) v/\RelV v its[j]:=by
 have h1:j < vs.length:=by rw [q.length]; exact h
 have h2:j < ds.length:=by rw [<-r.length]; exact h1
 obtain ⟨v,e,p⟩:=r.get (i:=j) (d:=ds[j]) (by simp [h2])
 obtain ⟨u,e2,p2⟩:=q.get e
 refine ⟨v,?_,?_⟩
 ·simpa [List.getD,h2] using p
 ·rw [List.getElem?_eq_getElem h] at e2; cases e2; exact p2
theorem pls_getD:∀ {n:Nat} {ds:List D},pls n ds=true->∀ j,pl n (ds.getD j .non)=true
 | n,[],_,j=>by simp [pl]
 | n,d :: ds,h,0=>by rw [pls,Bool.and_eq_true] at h; exact h.1
 | n,d :: ds,h,j + 1=>by rw [pls,Bool.and_eq_true] at h; exact pls_getD h.2 j
noncomputable def scD:D->Bool
 | .non=>true | .bl _=>true | .int _=>true | .str _=>true
 | _=>false
theorem eq_scal {m:Nat} {A:Around} {dx dy:D} {v w:V} {u u':Value} (I:Inv X pins σ H s) (hu:A.units < cLine) (px:scD dx=true) (py:pl m dy=true) (rx:Rp X.K H O dx v) (ry:Rp X.K H O dy w) (qx:RelV v u) (qy:RelV w u'):SeqAt.EqAt A s u u' (eqb dx dy):=by
 have two:∀ {b w},Rp X.K H O b w->(∃ es,b=.tup es)\/(∃ es,b=.lst es)->∀ {z},RelV w z->∃ a its,z=.ref a/\(((∃ es,b=.tup es)/\s.heap.IsTuple a its)\/((∃ es,b=.lst es)/\s.heap.IsList a its)):=fun {b w} r h z q=>by
  rcases h with ⟨es,rfl⟩ | ⟨es,rfl⟩
  ·unfold Rp at r
   obtain ⟨a,vs,rfl,_,q',rs⟩:=r
   cases q
   obtain ⟨its,vr,ht,hz⟩:=I.tuple (SqT.of q')
   exact ⟨a,_,rfl,.inl ⟨⟨es,rfl⟩,ht⟩⟩
  ·unfold Rp at r
   obtain ⟨a,vs,rfl,_,q',rs⟩:=r
   cases q
   obtain ⟨its,vr,ht,hz⟩:=I.list (SqL.of q')
   exact ⟨a,_,rfl,.inr ⟨⟨es,rfl⟩,ht.isList⟩⟩
 cases dx with
 | tup _=>cases px
 | lst _=>cases px
 | dic _=>cases px
 | scr _=>cases px
 | non =>
  unfold Rp at rx; subst rx; cases qx
  cases dy with
  | non=>unfold Rp at ry; subst ry; cases qy; exact SeqAt.EqAt.same _
  | bl _=>unfold Rp at ry; subst ry; cases qy; exact SeqAt.EqAt.none_bool _
  | int _=>unfold Rp at ry; subst ry; obtain ⟨t,rfl⟩:=qy; exact SeqAt.EqAt.none_int _ _
  | str _=>unfold Rp at ry; subst ry; obtain ⟨t,rfl⟩:=qy; exact SeqAt.EqAt.none_str _ _
  | dic _=>simp [pl] at py
  | scr _=>simp [pl] at py
  | tup es =>
   obtain ⟨a,its,rfl,⟨_,ht⟩ | ⟨⟨_,e⟩,ht⟩⟩:=two ry (.inl ⟨_,rfl⟩) qy
   ·exact SeqAt.EqAt.none_tuple ht hu
   ·cases e
  | lst es =>
   obtain ⟨a,its,rfl,⟨⟨_,e⟩,ht⟩ | ⟨_,ht⟩⟩:=two ry (.inr ⟨_,rfl⟩) qy
   ·cases e
   ·exact SeqAt.EqAt.none_list ht hu
 | bl _ =>
  unfold Rp at rx; subst rx; cases qx
  cases dy with
  | non=>unfold Rp at ry; subst ry; cases qy; exact SeqAt.EqAt.bool_none _
  | bl _=>unfold Rp at ry; subst ry; cases qy; exact SeqAt.EqAt.bool_bool _ _
  | int _=>unfold Rp at ry; subst ry; obtain ⟨t,rfl⟩:=qy; exact SeqAt.EqAt.bool_int _ _ _
  | str _=>unfold Rp at ry; subst ry; obtain ⟨t,rfl⟩:=qy; exact SeqAt.EqAt.bool_str _ _ _
  | dic _=>simp [pl] at py
  | scr _=>simp [pl] at py
  | tup es =>
   obtain ⟨a,its,rfl,⟨_,ht⟩ | ⟨⟨_,e⟩,ht⟩⟩:=two ry (.inl ⟨_,rfl⟩) qy
   ·exact SeqAt.EqAt.bool_tuple _ ht hu
   ·cases e
  | lst es =>
   obtain ⟨a,its,rfl,⟨⟨_,e⟩,ht⟩ | ⟨_,ht⟩⟩:=two ry (.inr ⟨_,rfl⟩) qy
   ·cases e
   ·exact SeqAt.EqAt.bool_list _ ht hu
 | int _ =>
  unfold Rp at rx; subst rx; obtain ⟨t0,rfl⟩:=qx
  cases dy with
  | non=>unfold Rp at ry; subst ry; cases qy; exact SeqAt.EqAt.int_none _ _
  | bl _=>unfold Rp at ry; subst ry; cases qy; exact SeqAt.EqAt.int_bool _ _ _
  | int _=>unfold Rp at ry; subst ry; obtain ⟨t,rfl⟩:=qy; exact SeqAt.EqAt.int_int _ _ _ _
  | str _=>unfold Rp at ry; subst ry; obtain ⟨t,rfl⟩:=qy; exact SeqAt.EqAt.int_str _ _ _ _
  | dic _=>simp [pl] at py
  | scr _=>simp [pl] at py
  | tup es =>
   obtain ⟨a,its,rfl,⟨_,ht⟩ | ⟨⟨_,e⟩,ht⟩⟩:=two ry (.inl ⟨_,rfl⟩) qy
   ·exact SeqAt.EqAt.int_tuple _ _ ht hu
   ·cases e
  | lst es =>
   obtain ⟨a,its,rfl,⟨⟨_,e⟩,ht⟩ | ⟨_,ht⟩⟩:=two ry (.inr ⟨_,rfl⟩) qy
   ·cases e
   ·exact SeqAt.EqAt.int_list _ _ ht hu
 | str _ =>
  unfold Rp at rx; subst rx; obtain ⟨t0,rfl⟩:=qx
  cases dy with
  | non=>unfold Rp at ry; subst ry; cases qy; exact SeqAt.EqAt.str_none _ _
  | bl _=>unfold Rp at ry; subst ry; cases qy; exact SeqAt.EqAt.str_bool _ _ _
  | int _=>unfold Rp at ry; subst ry; obtain ⟨t,rfl⟩:=qy; exact SeqAt.EqAt.str_int _ _ _ _
  | str _=>unfold Rp at ry; subst ry; obtain ⟨t,rfl⟩:=qy; exact SeqAt.EqAt.str_str _ _ _ _
  | dic _=>simp [pl] at py
  | scr _=>simp [pl] at py
  | tup es =>
   obtain ⟨a,its,rfl,⟨_,ht⟩ | ⟨⟨_,e⟩,ht⟩⟩:=two ry (.inl ⟨_,rfl⟩) qy
   ·exact SeqAt.EqAt.str_tuple _ _ ht hu
   ·cases e
  | lst es =>
   obtain ⟨a,its,rfl,⟨⟨_,e⟩,ht⟩ | ⟨_,ht⟩⟩:=two ry (.inr ⟨_,rfl⟩) qy
   ·cases e
   ·exact SeqAt.EqAt.str_list _ _ ht hu
theorem eq_at:∀ (n m:Nat) (A:Around) (dx dy:D) (v w:V) (u u':Value),Inv X pins σ H s->A.units + n < cLine->pl n dx=true->pl m dy=true->Rp X.K H O dx v->Rp X.K H O dy w->RelV v u->RelV w u'->SeqAt.EqAt A s u u' (eqb dx dy):=by
 intro n
 induction n with
 | zero =>
  intro m A dx dy v w u u' I hu px py rx ry qx qy
  cases dx with
  | tup _=>simp [pl] at px
  | lst _=>simp [pl] at px
  | dic _=>simp [pl] at px
  | scr _=>simp [pl] at px
  | non=>exact eq_scal I (by omega) rfl py rx ry qx qy
  | bl _=>exact eq_scal I (by omega) rfl py rx ry qx qy
  | int _=>exact eq_scal I (by omega) rfl py rx ry qx qy
  | str _=>exact eq_scal I (by omega) rfl py rx ry qx qy
 | succ n ih =>
  intro m A dx dy v w u u' I hu px py rx ry qx qy
  cases dx with
  | dic _=>simp [pl] at px
  | scr _=>simp [pl] at px
  | non=>exact eq_scal I (by omega) rfl py rx ry qx qy
  | bl _=>exact eq_scal I (by omega) rfl py rx ry qx qy
  | int _=>exact eq_scal I (by omega) rfl py rx ry qx qy
  | str _=>exact eq_scal I (by omega) rfl py rx ry qx qy
  | tup ds =>
   have rx':=rx
   unfold Rp at rx
   obtain ⟨a,vs,rfl,_,q,rs⟩:=rx
   cases qx
   obtain ⟨its,vr,ht,hz⟩:=I.tuple (SqT.of q)
   have ht:s.heap.IsTuple a its.toArray:=ht
   cases dy with
   | non=>unfold Rp at ry; subst ry; cases qy; exact SeqAt.EqAt.tuple_none ht (by omega)
   | bl _=>unfold Rp at ry; subst ry; cases qy; exact SeqAt.EqAt.tuple_bool _ ht (by omega)
   | int _=>unfold Rp at ry; subst ry; obtain ⟨t,rfl⟩:=qy; exact SeqAt.EqAt.tuple_int _ _ ht (by omega)
   | str _=>unfold Rp at ry; subst ry; obtain ⟨t,rfl⟩:=qy; exact SeqAt.EqAt.tuple_str _ _ ht (by omega)
   | dic _=>simp [pl] at py
   | scr _=>simp [pl] at py
   | lst es =>
    unfold Rp at ry
    obtain ⟨b,ws,rfl,_,q',rs'⟩:=ry
    cases qy
    obtain ⟨its',vr',ht',hz'⟩:=I.list (SqL.of q')
    exact SeqAt.EqAt.tuple_list ht ht'.isList (by omega)
   | tup es =>
    cases m with
    | zero=>simp [pl] at py
    | succ m =>
    have ry':=ry
    unfold Rp at ry
    obtain ⟨b,ws,rfl,_,q',rs'⟩:=ry
    cases qy
    by_cases hab:a=b
    ·subst hab
     have e:=Rp.inj px py rx' ry'
     rw [<-e,eqb_refl _ _ px]
     exact SeqAt.EqAt.same _
    ·obtain ⟨its',vr',ht',hz'⟩:=I.tuple (SqT.of q')
     have ht':s.heap.IsTuple b its'.toArray:=ht'
     rw [pl] at px py
     have l1:its.length=ds.length:=by rw [<-vr.length,rs.length]
     have l2:its'.length=es.length:=by rw [<-vr'.length,rs'.length]
     refine SeqAt.EqAt.of_refs hab ?_
     have main:=SeqAt.RcAt.tuples (A:=A) (e:=fun j=>eqb (ds.getD j .non) (es.getD j .non)) ht ht' (by omega) (fun j h1 h2=>by
      simp only [List.size_toArray] at h1 h2
      obtain ⟨v1,p1,p2⟩:=rps_at (X:=X) rs vr j h1
      obtain ⟨v2,p3,p4⟩:=rps_at (X:=X) rs' vr' j h2
      have:=ih m A.in1 (ds.getD j .non) (es.getD j .non) v1 v2 _ _ I (by rw [units_in1]; omega) (pls_getD px j) (pls_getD py j) p1 p3 p2 p4
      simpa using this)
     rw [eqb]
     by_cases hl:ds.length=es.length
     ·rw [eqbs_range hl]
      simp only [List.size_toArray,l1,l2,hl,Nat.min_self,beq_self_eq_true,Bool.and_true] at main
      rw [hl]; exact main
     ·rw [eqbs_len hl]
      simp only [List.size_toArray,l1,l2] at main
      rw [beq_eq_false_iff_ne.mpr hl,Bool.and_false] at main
      exact main
  | lst ds =>
   have rx':=rx
   unfold Rp at rx
   obtain ⟨a,vs,rfl,_,q,rs⟩:=rx
   cases qx
   obtain ⟨its,vr,ht,hz⟩:=I.list (SqL.of q)
   have ht:=ht.isList
   cases dy with
   | non=>unfold Rp at ry; subst ry; cases qy; exact SeqAt.EqAt.list_none ht (by omega)
   | bl _=>unfold Rp at ry; subst ry; cases qy; exact SeqAt.EqAt.list_bool _ ht (by omega)
   | int _=>unfold Rp at ry; subst ry; obtain ⟨t,rfl⟩:=qy; exact SeqAt.EqAt.list_int _ _ ht (by omega)
   | str _=>unfold Rp at ry; subst ry; obtain ⟨t,rfl⟩:=qy; exact SeqAt.EqAt.list_str _ _ ht (by omega)
   | dic _=>simp [pl] at py
   | scr _=>simp [pl] at py
   | tup es =>
    unfold Rp at ry
    obtain ⟨b,ws,rfl,_,q',rs'⟩:=ry
    cases qy
    obtain ⟨its',vr',ht',hz'⟩:=I.tuple (SqT.of q')
    exact SeqAt.EqAt.list_tuple ht ht' (by omega)
   | lst es =>
    cases m with
    | zero=>simp [pl] at py
    | succ m =>
    have ry':=ry
    unfold Rp at ry
    obtain ⟨b,ws,rfl,_,q',rs'⟩:=ry
    cases qy
    by_cases hab:a=b
    ·subst hab
     have e:=Rp.inj px py rx' ry'
     rw [<-e,eqb_refl _ _ px]
     exact SeqAt.EqAt.same _
    ·obtain ⟨its',vr',ht',hz'⟩:=I.list (SqL.of q')
     have ht':=ht'.isList
     rw [pl] at px py
     have l1:its.length=ds.length:=by rw [<-vr.length,rs.length]
     have l2:its'.length=es.length:=by rw [<-vr'.length,rs'.length]
     refine SeqAt.EqAt.of_refs hab ?_
     rw [eqb]
     by_cases hl:ds.length=es.length
     ·have main:=SeqAt.RcAt.lists (A:=A) (e:=fun j=>eqb (ds.getD j .non) (es.getD j .non)) ht ht' (by simp [l1,l2,hl]) (by omega) (fun j h1 h2=>by
       simp only [List.size_toArray] at h1 h2
       obtain ⟨v1,p1,p2⟩:=rps_at (X:=X) rs vr j h1
       obtain ⟨v2,p3,p4⟩:=rps_at (X:=X) rs' vr' j h2
       have:=ih m A.in1 (ds.getD j .non) (es.getD j .non) v1 v2 _ _ I (by rw [units_in1]; omega) (pls_getD px j) (pls_getD py j) p1 p3 p2 p4
       simpa using this)
      rw [eqbs_range hl]
      simp only [List.size_toArray,l1] at main
      exact main
     ·rw [eqbs_len hl]
      exact SeqAt.RcAt.lists_lengths ht ht' (by simp only [List.size_toArray,l1,l2]; exact bne_iff_ne.mpr hl) (by omega)
end
end M

set_option Elab.async false
set_option linter.all false
set_option maxRecDepth 100000
namespace M
open PySem PySem.Spec PyProof.Rows L2
section
variable {X:Cx} {pins:List (Addr × Obj)} {σ:St} {H:Hp} {s:Shared} {O:Addr->Prop}
theorem rc_at (n m:Nat) (A:Around) (dx dy:D) (v w:V) (u u':Value) (I:Inv X pins σ H s) (hu:A.units + n < cLine) (px:pl n dx=true) (py:pl m dy=true) (rx:Rp X.K H O dx v) (ry:Rp X.K H O dy w) (qx:RelV v u) (qy:RelV w u'):SeqAt.RcAt A s u u' ((eqb dx dy)):=by
 have hu0:A.units < cLine:=by omega
 cases dx with
 | dic _=>simp [pl] at px
 | scr _=>simp [pl] at px
 | non =>
  unfold Rp at rx; subst rx; cases qx
  cases dy with
  | dic _=>simp [pl] at py
  | scr _=>simp [pl] at py
  | non =>
   unfold Rp at ry; subst ry; cases qy
   exact SeqAt.RcAt.none_none
  | bl dy =>
   unfold Rp at ry; subst ry; cases qy
   exact SeqAt.RcAt.none_bool _
  | int dy =>
   unfold Rp at ry; subst ry; obtain ⟨t2,rfl⟩:=qy
   exact SeqAt.RcAt.none_int _ _
  | str dy =>
   unfold Rp at ry; subst ry; obtain ⟨t2,rfl⟩:=qy
   exact SeqAt.RcAt.none_str _ _
  | tup dy =>
   unfold Rp at ry; obtain ⟨a2,vs2,rfl,_,h2,rs2⟩:=ry; cases qy; obtain ⟨its2,vr2,ht2,hz2⟩:=I.tuple (SqT.of h2)
   exact SeqAt.RcAt.none_tuple ht2 hu0
  | lst dy =>
   unfold Rp at ry; obtain ⟨a2,vs2,rfl,_,h2,rs2⟩:=ry; cases qy; obtain ⟨its2,vr2,ht2,hz2⟩:=I.list (SqL.of h2); have ht2:=ht2.isList
   exact SeqAt.RcAt.none_list ht2 hu0
 | bl dx =>
  unfold Rp at rx; subst rx; cases qx
  cases dy with
  | dic _=>simp [pl] at py
  | scr _=>simp [pl] at py
  | non =>
   unfold Rp at ry; subst ry; cases qy
   exact SeqAt.RcAt.bool_none _
  | bl dy =>
   unfold Rp at ry; subst ry; cases qy
   exact SeqAt.RcAt.bool_bool _ _
  | int dy =>
   unfold Rp at ry; subst ry; obtain ⟨t2,rfl⟩:=qy
   exact SeqAt.RcAt.bool_int _ _ _
  | str dy =>
   unfold Rp at ry; subst ry; obtain ⟨t2,rfl⟩:=qy
   exact SeqAt.RcAt.bool_str _ _ _
  | tup dy =>
   unfold Rp at ry; obtain ⟨a2,vs2,rfl,_,h2,rs2⟩:=ry; cases qy; obtain ⟨its2,vr2,ht2,hz2⟩:=I.tuple (SqT.of h2)
   exact SeqAt.RcAt.bool_tuple _ ht2 hu0
  | lst dy =>
   unfold Rp at ry; obtain ⟨a2,vs2,rfl,_,h2,rs2⟩:=ry; cases qy; obtain ⟨its2,vr2,ht2,hz2⟩:=I.list (SqL.of h2); have ht2:=ht2.isList
   exact SeqAt.RcAt.bool_list _ ht2 hu0
 | int dx =>
  unfold Rp at rx; subst rx; obtain ⟨t1,rfl⟩:=qx
  cases dy with
  | dic _=>simp [pl] at py
  | scr _=>simp [pl] at py
  | non =>
   unfold Rp at ry; subst ry; cases qy
   exact SeqAt.RcAt.int_none _ _
  | bl dy =>
   unfold Rp at ry; subst ry; cases qy
   exact SeqAt.RcAt.int_bool _ _ _
  | int dy =>
   unfold Rp at ry; subst ry; obtain ⟨t2,rfl⟩:=qy
   exact SeqAt.RcAt.int_int _ _ _ _
  | str dy =>
   unfold Rp at ry; subst ry; obtain ⟨t2,rfl⟩:=qy
   exact SeqAt.RcAt.int_str _ _ _ _
  | tup dy =>
   unfold Rp at ry; obtain ⟨a2,vs2,rfl,_,h2,rs2⟩:=ry; cases qy; obtain ⟨its2,vr2,ht2,hz2⟩:=I.tuple (SqT.of h2)
   exact SeqAt.RcAt.int_tuple _ _ ht2 hu0
  | lst dy =>
   unfold Rp at ry; obtain ⟨a2,vs2,rfl,_,h2,rs2⟩:=ry; cases qy; obtain ⟨its2,vr2,ht2,hz2⟩:=I.list (SqL.of h2); have ht2:=ht2.isList
   exact SeqAt.RcAt.int_list _ _ ht2 hu0
 | str dx =>
  unfold Rp at rx; subst rx; obtain ⟨t1,rfl⟩:=qx
  cases dy with
  | dic _=>simp [pl] at py
  | scr _=>simp [pl] at py
  | non =>
   unfold Rp at ry; subst ry; cases qy
   exact SeqAt.RcAt.str_none _ _
  | bl dy =>
   unfold Rp at ry; subst ry; cases qy
   exact SeqAt.RcAt.str_bool _ _ _
  | int dy =>
   unfold Rp at ry; subst ry; obtain ⟨t2,rfl⟩:=qy
   exact SeqAt.RcAt.str_int _ _ _ _
  | str dy =>
   unfold Rp at ry; subst ry; obtain ⟨t2,rfl⟩:=qy
   exact SeqAt.RcAt.str_str _ _ _ _
  | tup dy =>
   unfold Rp at ry; obtain ⟨a2,vs2,rfl,_,h2,rs2⟩:=ry; cases qy; obtain ⟨its2,vr2,ht2,hz2⟩:=I.tuple (SqT.of h2)
   exact SeqAt.RcAt.str_tuple _ _ ht2 hu0
  | lst dy =>
   unfold Rp at ry; obtain ⟨a2,vs2,rfl,_,h2,rs2⟩:=ry; cases qy; obtain ⟨its2,vr2,ht2,hz2⟩:=I.list (SqL.of h2); have ht2:=ht2.isList
   exact SeqAt.RcAt.str_list _ _ ht2 hu0
 | tup dx =>
  cases n with
  | zero=>simp [pl] at px
  | succ n =>
  unfold Rp at rx; obtain ⟨a1,vs1,rfl,_,h1,rs1⟩:=rx; cases qx; obtain ⟨its1,vr1,ht1,hz1⟩:=I.tuple (SqT.of h1)
  cases dy with
  | dic _=>simp [pl] at py
  | scr _=>simp [pl] at py
  | non =>
   unfold Rp at ry; subst ry; cases qy
   exact SeqAt.RcAt.tuple_none ht1 hu0
  | bl dy =>
   unfold Rp at ry; subst ry; cases qy
   exact SeqAt.RcAt.tuple_bool _ ht1 hu0
  | int dy =>
   unfold Rp at ry; subst ry; obtain ⟨t2,rfl⟩:=qy
   exact SeqAt.RcAt.tuple_int _ _ ht1 hu0
  | str dy =>
   unfold Rp at ry; subst ry; obtain ⟨t2,rfl⟩:=qy
   exact SeqAt.RcAt.tuple_str _ _ ht1 hu0
  | tup dy =>
   cases m with
   | zero=>simp [pl] at py
   | succ m =>
   unfold Rp at ry; obtain ⟨a2,vs2,rfl,_,h2,rs2⟩:=ry; cases qy; obtain ⟨its2,vr2,ht2,hz2⟩:=I.tuple (SqT.of h2)
   rw [pl] at px py
   have l1:its1.length=dx.length:=by rw [<-vr1.length,rs1.length]
   have l2:its2.length=dy.length:=by rw [<-vr2.length,rs2.length]
   have el:∀ j (h1:j < its1.toArray.size) (h2:j < its2.toArray.size),SeqAt.EqAt A.in1 s its1.toArray[j] its2.toArray[j] (eqb (dx.getD j .non) (dy.getD j .non)):=fun j h1 h2=>by
    simp only [List.size_toArray] at h1 h2
    obtain ⟨v1,p1,p2⟩:=rps_at (X:=X) rs1 vr1 j h1
    obtain ⟨v2,p3,p4⟩:=rps_at (X:=X) rs2 vr2 j h2
    have:=eq_at n m A.in1 (dx.getD j .non) (dy.getD j .non) v1 v2 _ _ I (by rw [units_in1]; omega) (pls_getD px j) (pls_getD py j) p1 p3 p2 p4
    simpa using this
   rw [eqb]
   by_cases hl:dx.length=dy.length
   ·have main:=SeqAt.RcAt.tuples (A:=A) (e:=fun j=>eqb (dx.getD j .non) (dy.getD j .non)) ht1 ht2 hu0 el
    simp only [List.size_toArray,l1,l2,hl,Nat.min_self,beq_self_eq_true,Bool.and_true] at main
    rw [eqbs_range hl,hl]; exact main
   ·have main:=SeqAt.RcAt.tuples (A:=A) (e:=fun j=>eqb (dx.getD j .non) (dy.getD j .non)) ht1 ht2 hu0 el
    rw [eqbs_len hl]
    simp only [List.size_toArray,l1,l2] at main
    rw [beq_eq_false_iff_ne.mpr hl,Bool.and_false] at main
    exact main
  | lst dy =>
   unfold Rp at ry; obtain ⟨a2,vs2,rfl,_,h2,rs2⟩:=ry; cases qy; obtain ⟨its2,vr2,ht2,hz2⟩:=I.list (SqL.of h2); have ht2:=ht2.isList
   exact SeqAt.RcAt.tuple_list ht1 ht2 hu0
 | lst dx =>
  cases n with
  | zero=>simp [pl] at px
  | succ n =>
  unfold Rp at rx; obtain ⟨a1,vs1,rfl,_,h1,rs1⟩:=rx; cases qx; obtain ⟨its1,vr1,ht1,hz1⟩:=I.list (SqL.of h1); have ht1:=ht1.isList
  cases dy with
  | dic _=>simp [pl] at py
  | scr _=>simp [pl] at py
  | non =>
   unfold Rp at ry; subst ry; cases qy
   exact SeqAt.RcAt.list_none ht1 hu0
  | bl dy =>
   unfold Rp at ry; subst ry; cases qy
   exact SeqAt.RcAt.list_bool _ ht1 hu0
  | int dy =>
   unfold Rp at ry; subst ry; obtain ⟨t2,rfl⟩:=qy
   exact SeqAt.RcAt.list_int _ _ ht1 hu0
  | str dy =>
   unfold Rp at ry; subst ry; obtain ⟨t2,rfl⟩:=qy
   exact SeqAt.RcAt.list_str _ _ ht1 hu0
  | tup dy =>
   unfold Rp at ry; obtain ⟨a2,vs2,rfl,_,h2,rs2⟩:=ry; cases qy; obtain ⟨its2,vr2,ht2,hz2⟩:=I.tuple (SqT.of h2)
   exact SeqAt.RcAt.list_tuple ht1 ht2 hu0
  | lst dy =>
   cases m with
   | zero=>simp [pl] at py
   | succ m =>
   unfold Rp at ry; obtain ⟨a2,vs2,rfl,_,h2,rs2⟩:=ry; cases qy; obtain ⟨its2,vr2,ht2,hz2⟩:=I.list (SqL.of h2); have ht2:=ht2.isList
   rw [pl] at px py
   have l1:its1.length=dx.length:=by rw [<-vr1.length,rs1.length]
   have l2:its2.length=dy.length:=by rw [<-vr2.length,rs2.length]
   have el:∀ j (h1:j < its1.toArray.size) (h2:j < its2.toArray.size),SeqAt.EqAt A.in1 s its1.toArray[j] its2.toArray[j] (eqb (dx.getD j .non) (dy.getD j .non)):=fun j h1 h2=>by
    simp only [List.size_toArray] at h1 h2
    obtain ⟨v1,p1,p2⟩:=rps_at (X:=X) rs1 vr1 j h1
    obtain ⟨v2,p3,p4⟩:=rps_at (X:=X) rs2 vr2 j h2
    have:=eq_at n m A.in1 (dx.getD j .non) (dy.getD j .non) v1 v2 _ _ I (by rw [units_in1]; omega) (pls_getD px j) (pls_getD py j) p1 p3 p2 p4
    simpa using this
   rw [eqb]
   by_cases hl:dx.length=dy.length
   ·have main:=SeqAt.RcAt.lists (A:=A) (e:=fun j=>eqb (dx.getD j .non) (dy.getD j .non)) ht1 ht2 (by simp [l1,l2,hl]) hu0 el
    simp only [List.size_toArray,l1] at main
    rw [eqbs_range hl]; exact main
   ·rw [eqbs_len hl]
    exact SeqAt.RcAt.lists_lengths ht1 ht2 (by simp only [List.size_toArray,l1,l2]; exact bne_iff_ne.mpr hl) hu0
theorem rcne_at (n m:Nat) (A:Around) (dx dy:D) (v w:V) (u u':Value) (I:Inv X pins σ H s) (hu:A.units + n < cLine) (px:pl n dx=true) (py:pl m dy=true) (rx:Rp X.K H O dx v) (ry:Rp X.K H O dy w) (qx:RelV v u) (qy:RelV w u'):SeqAt.RcNeAt A s u u' (!(eqb dx dy)):=by
 have hu0:A.units < cLine:=by omega
 cases dx with
 | dic _=>simp [pl] at px
 | scr _=>simp [pl] at px
 | non =>
  unfold Rp at rx; subst rx; cases qx
  cases dy with
  | dic _=>simp [pl] at py
  | scr _=>simp [pl] at py
  | non =>
   unfold Rp at ry; subst ry; cases qy
   exact SeqAt.RcNeAt.none_none
  | bl dy =>
   unfold Rp at ry; subst ry; cases qy
   exact SeqAt.RcNeAt.none_bool _
  | int dy =>
   unfold Rp at ry; subst ry; obtain ⟨t2,rfl⟩:=qy
   exact SeqAt.RcNeAt.none_int _ _
  | str dy =>
   unfold Rp at ry; subst ry; obtain ⟨t2,rfl⟩:=qy
   exact SeqAt.RcNeAt.none_str _ _
  | tup dy =>
   unfold Rp at ry; obtain ⟨a2,vs2,rfl,_,h2,rs2⟩:=ry; cases qy; obtain ⟨its2,vr2,ht2,hz2⟩:=I.tuple (SqT.of h2)
   exact SeqAt.RcNeAt.none_tuple ht2 hu0
  | lst dy =>
   unfold Rp at ry; obtain ⟨a2,vs2,rfl,_,h2,rs2⟩:=ry; cases qy; obtain ⟨its2,vr2,ht2,hz2⟩:=I.list (SqL.of h2); have ht2:=ht2.isList
   exact SeqAt.RcNeAt.none_list ht2 hu0
 | bl dx =>
  unfold Rp at rx; subst rx; cases qx
  cases dy with
  | dic _=>simp [pl] at py
  | scr _=>simp [pl] at py
  | non =>
   unfold Rp at ry; subst ry; cases qy
   exact SeqAt.RcNeAt.bool_none _
  | bl dy =>
   unfold Rp at ry; subst ry; cases qy
   exact SeqAt.RcNeAt.bool_bool _ _
  | int dy =>
   unfold Rp at ry; subst ry; obtain ⟨t2,rfl⟩:=qy
   exact SeqAt.RcNeAt.bool_int _ _ _
  | str dy =>
   unfold Rp at ry; subst ry; obtain ⟨t2,rfl⟩:=qy
   exact SeqAt.RcNeAt.bool_str _ _ _
  | tup dy =>
   unfold Rp at ry; obtain ⟨a2,vs2,rfl,_,h2,rs2⟩:=ry; cases qy; obtain ⟨its2,vr2,ht2,hz2⟩:=I.tuple (SqT.of h2)
   exact SeqAt.RcNeAt.bool_tuple _ ht2 hu0
  | lst dy =>
   unfold Rp at ry; obtain ⟨a2,vs2,rfl,_,h2,rs2⟩:=ry; cases qy; obtain ⟨its2,vr2,ht2,hz2⟩:=I.list (SqL.of h2); have ht2:=ht2.isList
   exact SeqAt.RcNeAt.bool_list _ ht2 hu0
 | int dx =>
  unfold Rp at rx; subst rx; obtain ⟨t1,rfl⟩:=qx
  cases dy with
  | dic _=>simp [pl] at py
  | scr _=>simp [pl] at py
  | non =>
   unfold Rp at ry; subst ry; cases qy
   exact SeqAt.RcNeAt.int_none _ _
  | bl dy =>
   unfold Rp at ry; subst ry; cases qy
   exact SeqAt.RcNeAt.int_bool _ _ _
  | int dy =>
   unfold Rp at ry; subst ry; obtain ⟨t2,rfl⟩:=qy
   exact SeqAt.RcNeAt.int_int _ _ _ _
  | str dy =>
   unfold Rp at ry; subst ry; obtain ⟨t2,rfl⟩:=qy
   exact SeqAt.RcNeAt.int_str _ _ _ _
  | tup dy =>
   unfold Rp at ry; obtain ⟨a2,vs2,rfl,_,h2,rs2⟩:=ry; cases qy; obtain ⟨its2,vr2,ht2,hz2⟩:=I.tuple (SqT.of h2)
   exact SeqAt.RcNeAt.int_tuple _ _ ht2 hu0
  | lst dy =>
   unfold Rp at ry; obtain ⟨a2,vs2,rfl,_,h2,rs2⟩:=ry; cases qy; obtain ⟨its2,vr2,ht2,hz2⟩:=I.list (SqL.of h2); have ht2:=ht2.isList
   exact SeqAt.RcNeAt.int_list _ _ ht2 hu0
 | str dx =>
  unfold Rp at rx; subst rx; obtain ⟨t1,rfl⟩:=qx
  cases dy with
  | dic _=>simp [pl] at py
  | scr _=>simp [pl] at py
  | non =>
   unfold Rp at ry; subst ry; cases qy
   exact SeqAt.RcNeAt.str_none _ _
  | bl dy =>
   unfold Rp at ry; subst ry; cases qy
   exact SeqAt.RcNeAt.str_bool _ _ _
  | int dy =>
   unfold Rp at ry; subst ry; obtain ⟨t2,rfl⟩:=qy
   exact SeqAt.RcNeAt.str_int _ _ _ _
  | str dy =>
   unfold Rp at ry; subst ry; obtain ⟨t2,rfl⟩:=qy
   exact SeqAt.RcNeAt.str_str _ _ _ _
  | tup dy =>
   unfold Rp at ry; obtain ⟨a2,vs2,rfl,_,h2,rs2⟩:=ry; cases qy; obtain ⟨its2,vr2,ht2,hz2⟩:=I.tuple (SqT.of h2)
   exact SeqAt.RcNeAt.str_tuple _ _ ht2 hu0
  | lst dy =>
   unfold Rp at ry; obtain ⟨a2,vs2,rfl,_,h2,rs2⟩:=ry; cases qy; obtain ⟨its2,vr2,ht2,hz2⟩:=I.list (SqL.of h2); have ht2:=ht2.isList
   exact SeqAt.RcNeAt.str_list _ _ ht2 hu0
 | tup dx =>
  cases n with
  | zero=>simp [pl] at px
  | succ n =>
  unfold Rp at rx; obtain ⟨a1,vs1,rfl,_,h1,rs1⟩:=rx; cases qx; obtain ⟨its1,vr1,ht1,hz1⟩:=I.tuple (SqT.of h1)
  cases dy with
  | dic _=>simp [pl] at py
  | scr _=>simp [pl] at py
  | non =>
   unfold Rp at ry; subst ry; cases qy
   exact SeqAt.RcNeAt.tuple_none ht1 hu0
  | bl dy =>
   unfold Rp at ry; subst ry; cases qy
   exact SeqAt.RcNeAt.tuple_bool _ ht1 hu0
  | int dy =>
   unfold Rp at ry; subst ry; obtain ⟨t2,rfl⟩:=qy
   exact SeqAt.RcNeAt.tuple_int _ _ ht1 hu0
  | str dy =>
   unfold Rp at ry; subst ry; obtain ⟨t2,rfl⟩:=qy
   exact SeqAt.RcNeAt.tuple_str _ _ ht1 hu0
  | tup dy =>
   cases m with
   | zero=>simp [pl] at py
   | succ m =>
   unfold Rp at ry; obtain ⟨a2,vs2,rfl,_,h2,rs2⟩:=ry; cases qy; obtain ⟨its2,vr2,ht2,hz2⟩:=I.tuple (SqT.of h2)
   rw [pl] at px py
   have l1:its1.length=dx.length:=by rw [<-vr1.length,rs1.length]
   have l2:its2.length=dy.length:=by rw [<-vr2.length,rs2.length]
   have el:∀ j (h1:j < its1.toArray.size) (h2:j < its2.toArray.size),SeqAt.EqAt A.in1 s its1.toArray[j] its2.toArray[j] (eqb (dx.getD j .non) (dy.getD j .non)):=fun j h1 h2=>by
    simp only [List.size_toArray] at h1 h2
    obtain ⟨v1,p1,p2⟩:=rps_at (X:=X) rs1 vr1 j h1
    obtain ⟨v2,p3,p4⟩:=rps_at (X:=X) rs2 vr2 j h2
    have:=eq_at n m A.in1 (dx.getD j .non) (dy.getD j .non) v1 v2 _ _ I (by rw [units_in1]; omega) (pls_getD px j) (pls_getD py j) p1 p3 p2 p4
    simpa using this
   rw [eqb]
   by_cases hl:dx.length=dy.length
   ·have main:=SeqAt.RcNeAt.tuples (A:=A) (e:=fun j=>eqb (dx.getD j .non) (dy.getD j .non)) ht1 ht2 hu0 el
    simp only [List.size_toArray,l1,l2,hl,Nat.min_self,beq_self_eq_true,Bool.and_true] at main
    rw [eqbs_range hl,hl]; exact main
   ·have main:=SeqAt.RcNeAt.tuples (A:=A) (e:=fun j=>eqb (dx.getD j .non) (dy.getD j .non)) ht1 ht2 hu0 el
    rw [eqbs_len hl]
    simp only [List.size_toArray,l1,l2] at main
    rw [beq_eq_false_iff_ne.mpr hl,Bool.and_false] at main
    exact main
  | lst dy =>
   unfold Rp at ry; obtain ⟨a2,vs2,rfl,_,h2,rs2⟩:=ry; cases qy; obtain ⟨its2,vr2,ht2,hz2⟩:=I.list (SqL.of h2); have ht2:=ht2.isList
   exact SeqAt.RcNeAt.tuple_list ht1 ht2 hu0
 | lst dx =>
  cases n with
  | zero=>simp [pl] at px
  | succ n =>
  unfold Rp at rx; obtain ⟨a1,vs1,rfl,_,h1,rs1⟩:=rx; cases qx; obtain ⟨its1,vr1,ht1,hz1⟩:=I.list (SqL.of h1); have ht1:=ht1.isList
  cases dy with
  | dic _=>simp [pl] at py
  | scr _=>simp [pl] at py
  | non =>
   unfold Rp at ry; subst ry; cases qy
   exact SeqAt.RcNeAt.list_none ht1 hu0
  | bl dy =>
   unfold Rp at ry; subst ry; cases qy
   exact SeqAt.RcNeAt.list_bool _ ht1 hu0
  | int dy =>
   unfold Rp at ry; subst ry; obtain ⟨t2,rfl⟩:=qy
   exact SeqAt.RcNeAt.list_int _ _ ht1 hu0
  | str dy =>
   unfold Rp at ry; subst ry; obtain ⟨t2,rfl⟩:=qy
   exact SeqAt.RcNeAt.list_str _ _ ht1 hu0
  | tup dy =>
   unfold Rp at ry; obtain ⟨a2,vs2,rfl,_,h2,rs2⟩:=ry; cases qy; obtain ⟨its2,vr2,ht2,hz2⟩:=I.tuple (SqT.of h2)
   exact SeqAt.RcNeAt.list_tuple ht1 ht2 hu0
  | lst dy =>
   cases m with
   | zero=>simp [pl] at py
   | succ m =>
   unfold Rp at ry; obtain ⟨a2,vs2,rfl,_,h2,rs2⟩:=ry; cases qy; obtain ⟨its2,vr2,ht2,hz2⟩:=I.list (SqL.of h2); have ht2:=ht2.isList
   rw [pl] at px py
   have l1:its1.length=dx.length:=by rw [<-vr1.length,rs1.length]
   have l2:its2.length=dy.length:=by rw [<-vr2.length,rs2.length]
   have el:∀ j (h1:j < its1.toArray.size) (h2:j < its2.toArray.size),SeqAt.EqAt A.in1 s its1.toArray[j] its2.toArray[j] (eqb (dx.getD j .non) (dy.getD j .non)):=fun j h1 h2=>by
    simp only [List.size_toArray] at h1 h2
    obtain ⟨v1,p1,p2⟩:=rps_at (X:=X) rs1 vr1 j h1
    obtain ⟨v2,p3,p4⟩:=rps_at (X:=X) rs2 vr2 j h2
    have:=eq_at n m A.in1 (dx.getD j .non) (dy.getD j .non) v1 v2 _ _ I (by rw [units_in1]; omega) (pls_getD px j) (pls_getD py j) p1 p3 p2 p4
    simpa using this
   rw [eqb]
   by_cases hl:dx.length=dy.length
   ·have main:=SeqAt.RcNeAt.lists (A:=A) (e:=fun j=>eqb (dx.getD j .non) (dy.getD j .non)) ht1 ht2 (by simp [l1,l2,hl]) hu0 el
    simp only [List.size_toArray,l1] at main
    rw [eqbs_range hl]; exact main
   ·rw [eqbs_len hl]
    exact SeqAt.RcNeAt.lists_lengths ht1 ht2 (by simp only [List.size_toArray,l1,l2]; exact bne_iff_ne.mpr hl) hu0
end

section
variable {X:Cx} {G:Fc}
noncomputable def rEqD (K:PySem.W.Frag) (neg:Bool):R2:=fun x y H Q=>∃ dx dy,pl 4 dx=true/\pl 4 dy=true/\Rp K H NoO dx x/\Rp K H NoO dy y/\Q (.bl (if neg=true then !(eqb dx dy) else eqb dx dy)) H
theorem op_eqD (hu:X.A.units + 4 < cLine):OpR X (compareOp .Eq) (rEqD X.K false):=by
 intro pins s σ H x y v u Q I rx ry h
 obtain ⟨dx,dy,px,py,qx,qy,q⟩:=h
 exact rc_at (O:=NoO) 4 4 X.A dx dy x y v u I hu px py qx qy rx ry _ _ _ _ (fin_bl I q rfl)
theorem op_neD (hu:X.A.units + 4 < cLine):OpR X (compareOp .NotEq) (rEqD X.K true):=by
 intro pins s σ H x y v u Q I rx ry h
 obtain ⟨dx,dy,px,py,qx,qy,q⟩:=h
 exact rcne_at (O:=NoO) 4 4 X.A dx dy x y v u I hu px py qx qy rx ry _ _ _ _ (fin_bl I q rfl)
noncomputable def fEq (dx dy:D):Option D:=if pl 4 dx && pl 4 dy then some (.bl (eqb dx dy)) else none
noncomputable def fNe (dx dy:D):Option D:=if pl 4 dx && pl 4 dy then some (.bl (!(eqb dx dy))) else none
theorem od_eq {K:PySem.W.Frag}:OpD K (rEqD K false) fEq:=fun H O dx dy d v w Q fr e rx ry q=>by
 unfold fEq at e
 split at e
 ·rename_i h
  rw [Bool.and_eq_true] at h
  cases e
  exact ⟨dx,dy,h.1,h.2,rx.any h.1,ry.any h.2,q _ H (Same.refl _) rfl⟩
 ·cases e
theorem od_ne {K:PySem.W.Frag}:OpD K (rEqD K true) fNe:=fun H O dx dy d v w Q fr e rx ry q=>by
 unfold fNe at e
 split at e
 ·rename_i h
  rw [Bool.and_eq_true] at h
  cases e
  exact ⟨dx,dy,h.1,h.2,rx.any h.1,ry.any h.2,q _ H (Same.refl _) rfl⟩
 ·cases e
end
end M

set_option Elab.async false
set_option linter.all false
set_option maxRecDepth 100000
namespace M
open PySem PySem.Spec PyProof.Rows L2

noncomputable def fAdd:D->D->Option D
 | .int i,.int j=>some (.int (i + j))
 | .lst a,.lst b=>if a.length + b.length<=1000000 then some (.lst (a++b)) else none
 | .str a,.str b=>if a.length + b.length<=1000000 then some (.str (a++b)) else none
 | _,_=>none
noncomputable def fSub:D->D->Option D
 | .int i,.int j=>some (.int (i - j))
 | _,_=>none
noncomputable def fMul:D->D->Option D
 | .int i,.int j=>if i.natAbs < 2 ^ 63\/j.natAbs < 2 ^ 63 then some (.int (i * j)) else none
 | _,_=>none
noncomputable def fDiv:D->D->Option D
 | .int i,.int j=>if 0 < j/\j < 1073741824 then some (.int (i / j)) else none
 | _,_=>none
noncomputable def fMod:D->D->Option D
 | .int i,.int j=>if 0 < j then some (.int (i % j)) else none
 | _,_=>none
section
variable {K:PySem.W.Frag}
theorem od_int {C:Int->Int->Prop} {g:Int->Int->D} {gv:Int->Int->V} {f:D->D->Option D} (hf:∀ dx dy d,f dx dy=some d->∃ i j,dx=.int i/\dy=.int j/\C i j/\d=g i j) (hg:∀ i j H O,Rp K H O (g i j) (gv i j)) :
  OpD K (rI C gv) f:=fun H O dx dy d v w Q fr e rx ry q=>by
 obtain ⟨i,j,rfl,rfl,c,rfl⟩:=hf _ _ _ e
 exact ⟨i,j,rx.int,ry.int,c,q _ H (Same.refl _) (hg i j H O)⟩
theorem od_int0 {g:Int->Int->D} {gv:Int->Int->V} {f:D->D->Option D} (hf:∀ dx dy d,f dx dy=some d->∃ i j,dx=.int i/\dy=.int j/\d=g i j) (hg:∀ i j H O,Rp K H O (g i j) (gv i j)) :
  OpD K (rI0 gv) f:=fun H O dx dy d v w Q fr e rx ry q=>by
 obtain ⟨i,j,rfl,rfl,rfl⟩:=hf _ _ _ e
 exact ⟨i,j,rx.int,ry.int,q _ H (Same.refl _) (hg i j H O)⟩
theorem od_sub:OpD K (rI0 fun i j=>.int (i - j)) fSub:=od_int0 (g:=fun i j=>.int (i - j)) (fun dx dy d e=>by
 cases dx<;>cases dy<;>simp [fSub] at e
 exact ⟨_,_,rfl,rfl,e.symm⟩) fun _ _ _ _=>by unfold Rp; rfl
theorem od_mul:OpD K (rI CMul fun i j=>.int (i * j)) fMul:=od_int (g:=fun i j=>.int (i * j)) (fun dx dy d e=>by
 cases dx<;>cases dy<;>simp [fMul] at e
 obtain ⟨c,e⟩:=e
 refine ⟨_,_,rfl,rfl,?_,e.symm⟩
 unfold CMul
 omega (config:={})) fun _ _ _ _=>by unfold Rp; rfl
theorem od_div:OpD K (rI CDiv fun i j=>.int (i / j)) fDiv:=od_int (g:=fun i j=>.int (i / j)) (fun dx dy d e=>by
 cases dx<;>cases dy<;>simp [fDiv] at e
 obtain ⟨c,e⟩:=e
 exact ⟨_,_,rfl,rfl,c,e.symm⟩) fun _ _ _ _=>by unfold Rp; rfl
theorem od_mod:OpD K (rI (fun _ j=>0 < j) fun i j=>.int (i % j)) fMod:=od_int (g:=fun i j=>.int (i % j)) (fun dx dy d e=>by
 cases dx<;>cases dy<;>simp [fMod] at e
 obtain ⟨c,e⟩:=e
 exact ⟨_,_,rfl,rfl,c,e.symm⟩) fun _ _ _ _=>by unfold Rp; rfl
noncomputable def rAdd3:R2:=fun x y H Q=>(rI0 fun i j=>.int (i + j)) x y H Q\/rCat x y H Q\/(∃ i j,x=.str i/\y=.str j/\i.length + j.length<=sizeLine/\Q (.str (i++j)) H)
theorem op_add3 {X:Cx}:OpR X (binaryOp .Add) rAdd3:=op_add.or (op_cat.or op_add_str)
theorem od_add:OpD K rAdd3 fAdd:=fun H O dx dy d v w Q fr e rx ry q=>by
 cases dx with
 | int i =>
  cases dy<;>simp [fAdd] at e
  exact .inl ⟨_,_,rx.int,ry.int,q _ H (Same.refl _) (by rw [<-e]; unfold Rp; rfl)⟩
 | str i =>
  cases dy<;>simp [fAdd] at e
  obtain ⟨c,e⟩:=e
  exact .inr (.inr ⟨_,_,rx.str,ry.str,by rw [sizeLine_eq]; omega,q _ H (Same.refl _) (by rw [<-e]; unfold Rp; rfl)⟩)
 | lst a =>
  cases dy<;>simp [fAdd] at e
  obtain ⟨c,e⟩:=e
  obtain ⟨l,xs,rfl,h1,r1⟩:=rx.lst
  obtain ⟨l',ys,rfl,h2,r2⟩:=ry.lst
  refine .inr (.inl ⟨l,l',xs,ys,rfl,rfl,h1,h2,by rw [r1.length,r2.length,sizeLine_eq]; omega,fun p hp=>q _ _ (same_upd hp) ?_⟩)
  subst e
  unfold Rp
  exact ⟨p,_,rfl,fr.fr hp,upd_same,(r1.append r2).mono (same_upd hp) fun _ z=>z⟩
 | _=>cases dy<;>simp [fAdd] at e
noncomputable def fCat:D->D->Option D
 | .lst a,.lst b=>if a.length + b.length<=1000000 then some (.lst (a++b)) else none
 | _,_=>none

noncomputable def dInts:List D->Option (List Int)
 | []=>some []
 | .int i :: r=>(dInts r).map (i :: ·)
 | _ :: _=>none
theorem ints_some:∀ {ds:List D} {ns:List Int},dInts ds=some ns->ds=ns.map D.int
 | [],ns,h=>by simp [dInts] at h; subst h; rfl
 | .int i :: r,ns,h=>by
  simp only [dInts,Option.map_eq_some_iff] at h
  obtain ⟨ms,h1,rfl⟩:=h
  rw [ints_some h1]; rfl
 | .non :: r,ns,h=>by simp [dInts] at h
 | .bl _ :: r,ns,h=>by simp [dInts] at h
 | .str _ :: r,ns,h=>by simp [dInts] at h
 | .tup _ :: r,ns,h=>by simp [dInts] at h
 | .lst _ :: r,ns,h=>by simp [dInts] at h
 | .dic _ :: r,ns,h=>by simp [dInts] at h
 | .scr _ :: r,ns,h=>by simp [dInts] at h
@[simp] theorem ints_map:∀ ns:List Int,dInts (ns.map D.int)=some ns
 | []=>rfl
 | n :: ns=>by simp [dInts,ints_map ns]
theorem Rps.ints {H:Hp} {O:Addr->Prop}:∀ {ns:List Int} {vs:List V},Rps K H O (ns.map D.int) vs->vs=ns.map V.int
 | [],vs,h=>by unfold Rps at h; exact h
 | n :: ns,vs,h=>by
  unfold Rps at h
  obtain ⟨v,r,rfl,p,q⟩:=h
  unfold Rp at p
  rw [p,Rps.ints q]; rfl
theorem rps_of_ints {H:Hp} {O:Addr->Prop}:∀ (ns:List Int),Rps K H O (ns.map D.int) (ns.map V.int)
 | []=>Rps.nil
 | n :: ns=>Rps.cons (by unfold Rp; rfl) (rps_of_ints ns)
noncomputable def fLt:D->D->Option D
 | .int i,.int j=>some (.bl (decide (i < j)))
 | .tup a,.tup b=>do let x ← dInts a; let y ← dInts b; pure (.bl (HT.lexLt x y))
 | _,_=>none
noncomputable def fLe:D->D->Option D
 | .int i,.int j=>some (.bl (decide (i<=j)))
 | _,_=>none
noncomputable def fGt:D->D->Option D
 | .int i,.int j=>some (.bl (decide (j < i)))
 | _,_=>none
noncomputable def fGe:D->D->Option D
 | .int i,.int j=>some (.bl (decide (j<=i)))
 | .tup a,.tup b=>do let x ← dInts a; let y ← dInts b; pure (.bl (!(HT.lexLt x y)))
 | _,_=>none
noncomputable def rLt2 (K:PySem.W.Frag):R2:=fun x y H Q=>(rI0 fun i j=>.bl (decide (i < j))) x y H Q\/rLtT K x y H Q
theorem op_lt2 {X:Cx} (hu:X.A.units < cLine):OpR X (compareOp .Lt) (rLt2 X.K):=op_lt.or (op_ltT hu)
theorem od_lt:OpD K (rLt2 K) fLt:=fun H O dx dy d v w Q fr e rx ry q=>by
 cases dx with
 | int i =>
  cases dy<;>simp [fLt] at e
  exact .inl ⟨_,_,rx.int,ry.int,q _ H (Same.refl _) (by rw [<-e]; unfold Rp; rfl)⟩
 | tup a =>
  cases dy<;>simp [fLt,Option.bind_eq_some_iff] at e
  obtain ⟨ns,e1,ms,e2,e⟩:=e
  obtain ⟨l,xs,rfl,h1,r1⟩:=rx.tup
  obtain ⟨l',ys,rfl,h2,r2⟩:=ry.tup
  rw [ints_some e1] at r1
  rw [ints_some e2] at r2
  exact .inr ⟨l,l',ns,ms,rfl,rfl,SqT.of (by rw [<-r1.ints]; exact h1),SqT.of (by rw [<-r2.ints]; exact h2),q _ H (Same.refl _) (by rw [<-e]; unfold Rp; rfl)⟩
 | _=>cases dy<;>simp [fLt] at e
theorem od_le:OpD K (rI0 fun i j=>.bl (decide (i<=j))) fLe:=od_int0 (g:=fun i j=>.bl (decide (i<=j))) (fun dx dy d e=>by
 cases dx<;>cases dy<;>simp [fLe] at e
 exact ⟨_,_,rfl,rfl,e.symm⟩) fun _ _ _ _=>by unfold Rp; rfl
theorem od_gt:OpD K (rI0 fun i j=>.bl (decide (j < i))) fGt:=od_int0 (g:=fun i j=>.bl (decide (j < i))) (fun dx dy d e=>by
 cases dx<;>cases dy<;>simp [fGt] at e
 exact ⟨_,_,rfl,rfl,e.symm⟩) fun _ _ _ _=>by unfold Rp; rfl
end

section
open PySem.SeqAt
open PySem.AutoSeq1 (wpAny_loadPart')
open PySem.MeetsSeq PySem.MeetsSeq2 PySem.MeetsSeq3
end
section
variable {X:Cx} {K:PySem.W.Frag}
end
end M

set_option Elab.async false
set_option linter.all false
set_option maxRecDepth 100000
namespace M
open PySem PySem.Spec PyProof.Rows L2

theorem pls_get {n:Nat} {ds:List D} (h:pls n ds=true) {j:Nat} {d:D} (e:ds[j]?=some d):pl n d=true:=by
 have:=pls_getD h j
 rw [List.getD_eq_getElem?_getD,e] at this
 exact this
section
variable {X:Cx} {pins:List (Addr × Obj)} {σ:St} {H:Hp} {s:Shared}
theorem mem_at {A:Around} {dx:D} {ds:List D} {x:V} {u:Value} {vs:List V} {its:List Value} (I:Inv X pins σ H s) (hu:A.units + 4 < cLine) (px:pl 3 dx=true) (ps:pls 3 ds=true) (rx:Rp X.K H NoO dx x) (qx:RelV x u) (rs:Rps X.K H NoO ds vs) (qs:Vals vs its) :
  ∃ e:Value->Bool,(∀ y,y ∈ its.toArray->SeqAt.EqAt A.in1 s y u (e y))/\its.toArray.any e=ds.any fun y=>eqb y dx:=by
 classical
 have l:its.length=ds.length:=by rw [<-qs.length,rs.length]
 have at':∀ (j:Nat) (y:Value),its[j]?=some y->∃ v d,vs[j]?=some v/\ds[j]?=some d/\RelV v y/\Rp X.K H NoO d v:=fun j y e=>by
  have hj:j < its.length:=(List.getElem?_eq_some_iff.mp e).1
  have h2:j < ds.length:=by omega (config:={})
  obtain ⟨v,e1,p⟩:=rs.get (i:=j) (d:=ds[j]) (by simp [h2])
  obtain ⟨z,e2,p2⟩:=qs.get e1
  rw [e] at e2; cases e2
  exact ⟨v,_,e1,by simp [h2],p2,p⟩
 have same:∀ (j j':Nat) (y:Value) (d d':D),its[j]?=some y->its[j']?=some y->ds[j]?=some d->ds[j']?=some d'->d=d':=fun j j' y d d' e e' h h'=>by
  obtain ⟨v,d1,_,h1,q1,r1⟩:=at' j y e
  obtain ⟨v',d2,_,h2,q2,r2⟩:=at' j' y e'
  rw [h] at h1; cases h1
  rw [h'] at h2; cases h2
  cases q1.inj q2
  exact r1.inj (pls_get ps h) (pls_get ps h') r2
 let e:Value->Bool:=fun y=>decide (∃ (j:Nat) (d:D),its[j]?=some y/\ds[j]?=some d/\eqb d dx=true)
 have ee:∀ (j:Nat) (y:Value) (d:D),its[j]?=some y->ds[j]?=some d->e y=eqb d dx:=fun j y d h1 h2=>by
  cases q:eqb d dx with
  | true=>exact decide_eq_true ⟨j,d,h1,h2,q⟩
  | false =>
   refine decide_eq_false ?_
   rintro ⟨j',d',h1',h2',q'⟩
   rw [same j j' y d d' h1 h1' h2 h2',q'] at q; cases q
 refine ⟨e,fun y hy=>?_,?_⟩
 ·have hy:y ∈ its:=by simpa using hy
  obtain ⟨j,hj⟩:=List.getElem?_of_mem hy
  obtain ⟨v,d,h1,h2,q1,r1⟩:=at' j y hj
  rw [ee j y d hj h2]
  exact eq_at (O:=NoO) 3 3 A.in1 d dx v x y u I (by rw [units_in1]; omega (config:={})) (pls_get ps h2) px r1 rx q1 qx
 ·rw [List.any_toArray,Bool.eq_iff_iff,List.any_eq_true,List.any_eq_true]
  constructor
  ·rintro ⟨y,hy,q⟩
   obtain ⟨j,hj⟩:=List.getElem?_of_mem hy
   obtain ⟨v,d,h1,h2,q1,r1⟩:=at' j y hj
   rw [ee j y d hj h2] at q
   exact ⟨d,List.mem_of_getElem? h2,q⟩
  ·rintro ⟨d,hd,q⟩
   obtain ⟨j,hj⟩:=List.getElem?_of_mem hd
   have h2:j < its.length:=by rw [l]; exact (List.getElem?_eq_some_iff.mp hj).1
   refine ⟨its[j],List.getElem_mem h2,?_⟩
   rw [ee j _ d (by simp [h2]) hj]; exact q
end
noncomputable def rInD (K:PySem.W.Frag) (neg:Bool):R2:=fun x y H Q=>∃ dx ds p vs,pl 3 dx=true/\pls 3 ds=true/\y=.ref p/\Rp K H NoO dx x/\(H p=some (.lst vs)\/H p=some (.tup vs))/\Rps K H NoO ds vs ∧
 Q (.bl (if neg=true then !(ds.any fun y=>eqb y dx) else ds.any fun y=>eqb y dx)) H
section
variable {X:Cx} {K:PySem.W.Frag}
theorem op_inD (hu:X.A.units + 4 < cLine):OpR X (compareOp .In) (rInD X.K false):=by
 intro pins s σ H x y v u Q I rx ry h
 obtain ⟨dx,ds,p,vs,px,ps,rfl,qx,h2,rs,q⟩:=h
 cases ry
 rcases h2 with h2 | h2
 ·obtain ⟨its,vr,ht,hz⟩:=I.list (SqL.of h2)
  obtain ⟨e,he,ha⟩:=mem_at (A:=X.A) I hu px ps qx rx rs vr
  exact SeqAt.in_listAt e ht.isList he (by rw [ha]; exact fin_bl I q rfl)
 ·obtain ⟨its,vr,ht,hz⟩:=I.tuple (SqT.of h2)
  obtain ⟨e,he,ha⟩:=mem_at (A:=X.A) I hu px ps qx rx rs vr
  exact SeqAt.in_tupleAt e ht he (by rw [ha]; exact fin_bl I q rfl)
noncomputable def fIn:D->D->Option D
 | x,.lst ds=>if pl 3 x && pls 3 ds then some (.bl (ds.any fun y=>eqb y x)) else none
 | x,.tup ds=>if pl 3 x && pls 3 ds then some (.bl (ds.any fun y=>eqb y x)) else none
 | _,_=>none
noncomputable def fNotIn:D->D->Option D
 | x,.lst ds=>if pl 3 x && pls 3 ds then some (.bl (!(ds.any fun y=>eqb y x))) else none
 | x,.tup ds=>if pl 3 x && pls 3 ds then some (.bl (!(ds.any fun y=>eqb y x))) else none
 | _,_=>none
theorem od_in:OpD K (rInD K false) fIn:=fun H O dx dy d v w Q fr e rx ry q=>by
 unfold fIn at e
 split at e
 ·split at e
  ·rename_i h
   rw [Bool.and_eq_true] at h
   cases e
   obtain ⟨p,vs,rfl,h1,r1⟩:=ry.lst
   exact ⟨dx,_,p,vs,h.1,h.2,rfl,rx.any h.1,.inl h1,r1.mono (Same.refl _) fun _ z=>z.elim,q _ H (Same.refl _) rfl⟩
  ·cases e
 ·split at e
  ·rename_i h
   rw [Bool.and_eq_true] at h
   cases e
   obtain ⟨p,vs,rfl,h1,r1⟩:=ry.tup
   exact ⟨dx,_,p,vs,h.1,h.2,rfl,rx.any h.1,.inr h1,r1.mono (Same.refl _) fun _ z=>z.elim,q _ H (Same.refl _) rfl⟩
  ·cases e
 ·cases e

noncomputable def fIx:D->D->Option D
 | .lst ds,.int i=>atI ds i
 | .tup ds,.int i=>atI ds i
 | .scr ns,.int i=>(atI ns i).map .int
 | .str z,.int i=>if z.length<=1000000 then (atI z.cps.toList i).map fun c=>.str ⟨#[c]⟩ else none
 | _,_=>none
theorem atI_rps {H:Hp} {O:Addr->Prop} {ds:List D} {vs:List V} {i:Int} {d:D} (r:Rps K H O ds vs) (h:atI ds i=some d):∃ v,atI vs i=some v/\Rp K H O d v:=by
 unfold atI at h ⊢
 rw [<-r.length] at h
 cases e:ixN vs.length i with
 | none=>rw [e] at h; cases h
 | some j =>
  rw [e] at h
  exact r.get h
theorem od_ix:OpD K (rIx K) fIx:=fun H O dx dy d v w Q fr e rx ry q=>by
 cases dx with
 | lst ds =>
  cases dy<;>simp [fIx] at e
  obtain ⟨p,vs,rfl,h1,r1⟩:=rx.lst
  obtain ⟨v,e1,p1⟩:=atI_rps r1 e
  exact .inl ⟨p,vs,_,v,rfl,ry.int,SqL.of h1,e1,q _ H (Same.refl _) p1⟩
 | tup ds =>
  cases dy<;>simp [fIx] at e
  obtain ⟨p,vs,rfl,h1,r1⟩:=rx.tup
  obtain ⟨v,e1,p1⟩:=atI_rps r1 e
  exact .inr (.inl ⟨p,vs,_,v,rfl,ry.int,SqT.of h1,e1,q _ H (Same.refl _) p1⟩)
 | scr ns =>
  cases dy<;>simp [fIx] at e
  obtain ⟨n,e,rfl⟩:=e
  rcases rx with rx | ⟨a,_,h⟩
  ·obtain ⟨p,rfl,h1⟩:=rx.scr
   refine .inl ⟨p,_,_,.int n,rfl,ry.int,h1,?_,q _ H (Same.refl _) (by unfold Rp; rfl)⟩
   unfold atI at e ⊢
   rw [List.length_map]
   cases e':ixN ns.length _ with
   | none=>rw [e'] at e; cases e
   | some j =>
    rw [e'] at e
    simp only [Option.bind_some] at e ⊢
    rw [List.getElem?_map,e]; rfl
  ·exact h.elim
 | str z =>
  cases dy<;>simp [fIx] at e
  obtain ⟨hz,c,e,rfl⟩:=e
  exact .inr (.inr ⟨z,_,c,rx.str,ry.int,by rw [sizeLine_eq]; omega,e,q _ H (Same.refl _) (by unfold Rp; rfl)⟩)
 | _=>cases dy<;>simp [fIx] at e
end

noncomputable def cutD {α:Type} (xs:List α) (lo hi:Option Int):List α:=(xs.drop (HT.sIx xs.length 0 lo)).take (HT.sIx xs.length xs.length hi - HT.sIx xs.length 0 lo)
noncomputable def oPart (m:EV):Ev->R (Option Int):=fun E=>m E >>= fun d=>match d with
 | .int i=>.ok (some i)
 | _=>.no
noncomputable def oNone:Ev->R (Option Int):=fun _=>.ok none
noncomputable def fSl:D->Option Int->Option Int->Option D
 | .lst ds,lo,hi=>some (.lst (cutD ds lo hi))
 | .tup ds,lo,hi=>if HT.sIx ds.length 0 lo=0/\HT.sIx ds.length ds.length hi=ds.length then none else some (.tup (cutD ds lo hi))
 | _,_,_=>none
noncomputable def eSl (a:EV) (lo hi:Ev->R (Option Int)):EV:=fun E=>a E >>= fun x=>lo E >>= fun l=>hi E >>= fun h=>ofO (fSl x l h)
section
variable {X:Cx} {G:Fc}
noncomputable def SO (X:Cx) (G:Fc) (e:Option Expr) (m:Ev->R (Option Int)):Prop :=
 PO X e fun σ H Q=>∃ E,Rel X.K G E σ H/\Fin (m E) (fun o=>∀ H',Same H H'->Q o H') G.xc
theorem _root_.L2.PO.imp {X:Cx} {e:Option Expr} {t t':TO} (h:PO X e t) (i:∀ σ H Q,t' σ H Q->t σ H Q):PO X e t':=fun pins s σ H Q I q=>h pins s σ H Q I (i σ H Q q)
theorem so_none:SO X G none oNone:=po_none.imp fun σ H Q z0=>z0.elim fun E z0=>z0.elim fun hr f=>f H (Same.refl _)
theorem so_some {e:Expr} {m:EV} (h:SE X G e m):SO X G (some e) (oPart m):=(po_some h).imp fun σ H Q z0=>z0.elim fun E z0=>z0.elim fun hr f=>⟨E,hr,(Fin.bind f).mono fun d p v H' s z=>by
 cases d with
 | int i=>exact ⟨i,z.int,p H' s⟩
 | _=>exact p.elim⟩
theorem rps_cut {K:PySem.W.Frag} {H:Hp} {O:Addr->Prop} {ds:List D} {vs:List V} (r:Rps K H O ds vs) (lo hi:Option Int):Rps K H O (cutD ds lo hi) (cutV vs lo hi):=by
 unfold cutD cutV
 rw [r.length]
 exact (r.drop _).take _
theorem sf_slice {e:Expr} {lo hi:Option Expr} {p2 pos:Pos} {m:EV} {ml mh:Ev->R (Option Int)} (he:SE X G e m) (hl:SO X G lo ml) (hh:SO X G hi mh):SF X G (.Subscript e (.Slice lo hi none p2) pos) (eSl m ml mh) :=
 (pe_slice (SlR.or sl_list sl_tup) he hl hh).imp fun σ H Q z0=>z0.elim fun E z0=>z0.elim fun hr f=>⟨E,hr,(Fin.bind f).mono fun d p v H1 s1 z1=>⟨E,hr.same s1,(Fin.bind p).mono fun l p H2 s2=>⟨E,hr.same (s1.trans s2),(Fin.bind p).mono fun h p H3 s3=>by
  obtain ⟨d',e',p⟩:=Fin.of p
  have z:=z1.mono (s2.trans s3) fun _ z=>z
  have fr:∀ a,H3 a=none->¬ Ow G.pr E σ a:=fun a ha=>(hr.same (s1.trans (s2.trans s3))).fresh ha
  cases d with
  | lst ds =>
   cases e'
   obtain ⟨a,vs,rfl,h1,r1⟩:=z.lst
   refine .inl ⟨a,vs,rfl,SqL.of h1,fun q hq=>p _ _ (s1.trans (s2.trans (s3.trans (same_upd hq)))) ?_⟩
   unfold Rp
   exact ⟨q,_,rfl,fr q hq,upd_same,(rps_cut r1 _ _).mono (same_upd hq) fun _ z=>z⟩
  | tup ds =>
   simp only [fSl] at e'
   split at e'
   ·cases e'
   ·rename_i hn
    cases e'
    obtain ⟨a,vs,rfl,h1,r1⟩:=z.tup
    refine .inr ⟨a,vs,rfl,SqT.of h1,by rw [r1.length]; exact hn,fun q hq=>p _ _ (s1.trans (s2.trans (s3.trans (same_upd hq)))) ?_⟩
    unfold Rp
    exact ⟨q,_,rfl,fr q hq,upd_same,(rps_cut r1 _ _).mono (same_upd hq) fun _ z=>z⟩
  | _=>cases e'⟩⟩⟩
end

noncomputable def dget:List (List Int × D)->List Int->Option D
 | [],_=>none
 | (k,d) :: r,j=>if k=j then some d else dget r j
noncomputable def dput (kvs:List (List Int × D)) (k:List Int) (v:D):List (List Int × D) :=
 if kvs.any (fun kv=>decide (kv.1=k))=true then kvs.map (fun kv=>if kv.1=k then (kv.1,v) else kv) else kvs++[(k,v)]
noncomputable def keyOf:D->Option (List Int)
 | .tup ds=>dInts ds
 | _=>none
noncomputable def fDget:D->D->Option D
 | .dic kvs,k=>(keyOf k).bind (dget kvs)
 | _,_=>none
noncomputable def fDin:D->D->Option D
 | k,.dic kvs=>(keyOf k).map fun k=>.bl (dget kvs k).isSome
 | _,_=>none
noncomputable def fDnotIn:D->D->Option D
 | k,.dic kvs=>(keyOf k).map fun k=>.bl (!(dget kvs k).isSome)
 | _,_=>none
section
variable {K:PySem.W.Frag} {H:Hp} {O:Addr->Prop}
theorem inl_inj {a b:List Int}:a.map (Sum.inl:Int->Key)=b.map Sum.inl ↔ a=b :=
 ⟨fun h=>by
  have:=congrArg (List.map fun k:Key=>match k with | .inl i=>i | .inr _=>0) h
  simpa [Function.comp_def] using this,fun h=>by rw [h]⟩
theorem Rpk.get:∀ {kvs:List (List Int × D)} {ws:List (List Key × V)} (k:List Int),Rpk K H O kvs ws->(match dget kvs k with | some d=>∃ v,valV ws (k.map Sum.inl)=some v/\Rp K H O d v | none=>valV ws (k.map Sum.inl)=none)
 | [],ws,k,h=>by unfold Rpk at h; subst h; rfl
 | (j,d) :: r,ws,k,h=>by
  unfold Rpk at h
  obtain ⟨v,r',rfl,p,q⟩:=h
  unfold Rpq at p
  unfold dget
  by_cases e:j=k
  ·rw [if_pos e]
   exact ⟨v,valV_pos (by rw [e]),p⟩
  ·rw [if_neg e,valV_neg (fun z=>e (inl_inj.mp z))]
   exact Rpk.get k q
theorem Rpk.length:∀ {kvs:List (List Int × D)} {ws:List (List Key × V)},Rpk K H O kvs ws->ws.length=kvs.length
 | [],ws,h=>by unfold Rpk at h; subst h; rfl
 | (j,d) :: r,ws,h=>by
  unfold Rpk at h
  obtain ⟨v,r',rfl,p,q⟩:=h
  simp [Rpk.length q]
theorem Rpk.any:∀ {kvs:List (List Int × D)} {ws:List (List Key × V)} (k:List Int),Rpk K H O kvs ws->ws.any (fun kv=>decide (kv.1=k.map Sum.inl))=kvs.any fun kv=>decide (kv.1=k)
 | [],ws,k,h=>by unfold Rpk at h; subst h; rfl
 | (j,d) :: r,ws,k,h=>by
  unfold Rpk at h
  obtain ⟨v,r',rfl,p,q⟩:=h
  rw [List.any_cons,List.any_cons,Rpk.any k q]
  congr 1
  rw [Bool.eq_iff_iff]; simp only [decide_eq_true_eq]; exact inl_inj
theorem Rpk.repl {d:D} {v:V} {k:List Int} (p:Rp K H O d v):∀ {kvs:List (List Int × D)} {ws:List (List Key × V)},Rpk K H O kvs ws->Rpk K H O (kvs.map fun kv=>if kv.1=k then (kv.1,d) else kv) (ws.map fun kv=>if kv.1=k.map Sum.inl then (kv.1,v) else kv)
 | [],ws,h=>by unfold Rpk at h; subst h; unfold Rpk; rfl
 | (j,d0) :: r,ws,h=>by
  unfold Rpk at h
  obtain ⟨u,r',rfl,p0,q⟩:=h
  rw [List.map_cons,List.map_cons]
  by_cases e:j=k
  ·subst e
   rw [if_pos rfl,if_pos rfl]
   unfold Rpk
   exact ⟨v,_,rfl,by unfold Rpq; exact p,Rpk.repl p q⟩
  ·rw [if_neg e,if_neg (fun z=>e (inl_inj.mp z))]
   unfold Rpk
   exact ⟨u,_,rfl,p0,Rpk.repl p q⟩
theorem Rpk.snoc {d:D} {v:V} {k:List Int} (p:Rp K H O d v):∀ {kvs:List (List Int × D)} {ws:List (List Key × V)},Rpk K H O kvs ws->Rpk K H O (kvs++[(k,d)]) (ws++[(k.map Sum.inl,v)])
 | [],ws,h=>by
  unfold Rpk at h; subst h; unfold Rpk
  exact ⟨v,[],rfl,by unfold Rpq; exact p,by unfold Rpk; rfl⟩
 | (j,d0) :: r,ws,h=>by
  unfold Rpk at h
  obtain ⟨u,r',rfl,p0,q⟩:=h
  show Rpk K H O ((j,d0) :: (r++[(k,d)])) _
  unfold Rpk
  exact ⟨u,_,rfl,p0,Rpk.snoc p q⟩
theorem Rpk.put {kvs:List (List Int × D)} {ws:List (List Key × V)} {k:List Int} {d:D} {v:V} (h:Rpk K H O kvs ws) (p:Rp K H O d v):Rpk K H O (dput kvs k d) (putK ws (k.map Sum.inl) v):=by
 unfold dput putK
 rw [h.any k]
 split
 ·exact Rpk.repl p h
 ·exact Rpk.snoc p h
theorem key_of' {k:D} {ks:List Int} {v:V} (e:keyOf k=some ks) (r:Rt K H O k v):∃ b,v=.ref b/\H b=some (.tup ((ks.map (Sum.inl:Int->Key)).map kV)):=by
 cases k with
 | tup ds =>
  obtain ⟨b,vs,rfl,h,r⟩:=r.tup
  have:=ints_some e
  subst this
  refine ⟨b,rfl,?_⟩
  rw [h,r.ints,List.map_map]; rfl
 | _=>simp [keyOf] at e
end
section
variable {X:Cx} {G:Fc} {o i:Expr} {mo mi:EV} {pos:Pos}
theorem dget_rd {H:Hp} {a b:Addr} {kvs:List (List Key × V)} {k:List Key} (e:Rd H a (.dT kvs)) (eb:H b=some (.tup (k.map kV))):DGet H a (.ref b) (valV kvs k):=.inr ⟨kvs,k,b,e,rfl,eb,rfl⟩
theorem sf_dget (hu:X.A.units + 1 < cLine) (ho:SE X G o mo) (hi:SE X G i mi) (hs:NoSl i):SF X G (.Subscript o i pos) (e2 fDget mo mi) :=
 (pe_dget hu ho hi hs).imp fun σ H Q z0=>z0.elim fun E z0=>z0.elim fun hr f=>⟨E,hr,(Fin.bind f).mono fun dx fx v H1 s1 p1=>⟨E,hr.same s1,(Fin.bind fx).mono fun dy fy w H2 s2 p2=>by
  obtain ⟨d,e,p⟩:=Fin.of fy
  cases dx with
  | dic kvs =>
   simp only [fDget,Option.bind_eq_some_iff] at e
   obtain ⟨ks,e1,e2⟩:=e
   obtain ⟨b,rfl,hb⟩:=key_of' e1 p2
   obtain ⟨a,ws,rfl,ha,rk⟩:=(p1.mono s2 fun _ z=>z).dic
   have g:=rk.get ks
   rw [e2] at g
   obtain ⟨v,g1,g2⟩:=g
   refine ⟨a,v,rfl,?_,p v H2 (s1.trans s2) g2⟩
   have:=dget_rd ha hb
   rw [g1] at this
   exact this
  | _=>cases e⟩⟩
theorem dget_is {K:PySem.W.Frag} {H:Hp} {O:Addr->Prop} {kvs:List (List Int × D)} {ws:List (List Key × V)} {ks:List Int} {a b:Addr} (rk:Rpk K H O kvs ws) (ha:Rd H a (.dT ws)) (hb:H b=some (.tup ((ks.map (Sum.inl:Int->Key)).map kV))) :
  ∃ o,DGet H a (.ref b) o/\o.isSome=(dget kvs ks).isSome:=by
 refine ⟨_,dget_rd ha hb,?_⟩
 have g:=rk.get ks
 cases e:dget kvs ks with
 | none=>rw [e] at g; dsimp only at g; rw [g]; rfl
 | some d=>rw [e] at g; obtain ⟨v,g1,_⟩:=g; rw [g1]; rfl
end
end M

set_option Elab.async false
set_option linter.all false
set_option maxRecDepth 100000
namespace M
open PySem PySem.Spec PyProof.Rows L2

section
variable {K:PySem.W.Frag} {G:Fc} {E:Ev} {σ:St} {H H':Hp}
theorem get_set {α:Type} {l:List α} {i j:Nat} {x y:α} (h:(l.set i x)[j]?=some y):(j=i/\y=x)\/(j ≠ i/\l[j]?=some y):=by
 by_cases e:j=i
 ·subst e
  rw [List.getElem?_set_self'] at h
  cases q:l[j]? with
  | none=>rw [q] at h; cases h
  | some z=>rw [q] at h; simp at h; exact .inl ⟨rfl,h.symm⟩
 ·rw [List.getElem?_set_ne (Ne.symm e)] at h
  exact .inr ⟨e,h⟩
theorem set_ne {α:Type} {l:List α} {i j:Nat} {x:α} (e:j ≠ i):(l.set i x)[j]?=l[j]?:=List.getElem?_set_ne (Ne.symm e)
theorem set_self {α:Type} {l:List α} {i:Nat} {x:α} (h:i < l.length):(l.set i x)[i]?=some x:=by simp [h]
theorem Ow.setF {i:Nat} {d:D} {v:Option V} {a:Addr} (h:Ow G.pr (E.set i (.fz d)) (σ.set i v) a):Ow G.pr E σ a:=by
 rcases h with h | ⟨j,d',h1,h2⟩
 ·exact .inl h
 ·rcases get_set h1 with ⟨_,e⟩ | ⟨n,h1⟩
  ·cases e
  ·rw [set_ne n] at h2
   exact .inr ⟨j,d',h1,h2⟩
theorem Rel.setF {i:Nat} {d:D} {v:V} (r:Rel K G E σ H) (p:Rp K H (Ow G.pr E σ) d v):Rel K G (E.set i (.fz d)) (σ.set i (some v)) H where
 len:=by simp [r.len]
 fz:=fun j d' h=>by
  rcases get_set h with ⟨e,z⟩ | ⟨n,h⟩
  ·cases z
   subst e
   have hj:j < σ.length:=by
    rw [<-r.len]
    have:=(List.getElem?_eq_some_iff.mp h).1
    simpa using this
   exact ⟨v,set_self hj,p.mono (Same.refl _) fun _ z=>z.setF⟩
  ·obtain ⟨u,h1,h2⟩:=r.fz j d' h
   exact ⟨u,by rw [set_ne n]; exact h1,h2.mono (Same.refl _) fun _ z=>z.setF⟩
 ow:=fun j d' h=>by
  rcases get_set h with ⟨e,z⟩ | ⟨n,h⟩
  ·cases z
  ·obtain ⟨u,h1,h2,h3⟩:=r.ow j d' h
   exact ⟨u,by rw [set_ne n]; exact h1,h2.mono (Same.refl _) fun _ z=>z.setF,h3⟩
 ne:=fun j k d' e' a h1 h2 h3 h4=>by
  rcases get_set h1 with ⟨_,z⟩ | ⟨n1,h1⟩
  ·cases z
  rcases get_set h2 with ⟨_,z⟩ | ⟨n2,h2⟩
  ·cases z
  rw [set_ne n1] at h3
  rw [set_ne n2] at h4
  exact r.ne j k d' e' a h1 h2 h3 h4
 base:=r.base
 prt:=r.prt
theorem Rel.setO {i:Nat} {d:D} {a:Addr} (r:Rel K G E σ H) (s:Same H H') (n:H a=none) (p:Own K H' (fun b=>Ow G.pr E σ b\/b=a) d a):Rel K G (E.set i (.ow d)) (σ.set i (some (.ref a))) H':=by
 have no:¬ Ow G.pr E σ a:=r.fresh n
 have sub:∀ b,Ow G.pr (E.set i (.ow d)) (σ.set i (some (.ref a))) b->Ow G.pr E σ b\/b=a:=fun b h=>by
  rcases h with h | ⟨j,d',h1,h2⟩
  ·exact .inl (.inl h)
  ·rcases get_set h1 with ⟨e,z⟩ | ⟨n1,h1⟩
   ·cases z
    subst e
    rcases get_set h2 with ⟨_,z⟩ | ⟨n,_⟩
    ·cases z; exact .inr rfl
    ·exact absurd rfl n
   ·rw [set_ne n1] at h2
    exact .inl (.inr ⟨j,d',h1,h2⟩)
 have h0:G.h0 a=none:=by
  cases q:G.h0 a with
  | none=>rfl
  | some o=>rw [r.base _ _ q] at n; cases n
 refine ⟨by simp [r.len],fun j d' h=>?_,fun j d' h=>?_,fun j k d' e' b h1 h2 h3 h4=>?_,r.base.trans s,r.prt⟩
 ·rcases get_set h with ⟨e,z⟩ | ⟨n1,h⟩
  ·cases z
  ·obtain ⟨u,h1,h2⟩:=r.fz j d' h
   exact ⟨u,by rw [set_ne n1]; exact h1,(h2.fresh n).mono s sub⟩
 ·rcases get_set h with ⟨e,z⟩ | ⟨n1,h⟩
  ·cases z
   subst e
   have hj:j < σ.length:=by
    rw [<-r.len]
    have:=(List.getElem?_eq_some_iff.mp h).1
    simpa using this
   exact ⟨a,set_self hj,p.mono (Same.refl _) sub,h0⟩
  ·obtain ⟨u,h1,h2,h3⟩:=r.ow j d' h
   refine ⟨u,by rw [set_ne n1]; exact h1,?_,h3⟩
   have h4:Own K H (fun b=>Ow G.pr E σ b\/b=a) d' u:=by
    cases d' with
    | lst ds=>obtain ⟨vs,e,q⟩:=h2; exact ⟨vs,e,q.fresh n⟩
    | dic ds=>obtain ⟨vs,e,q⟩:=h2; exact ⟨vs,e,q.fresh n⟩
    | _=>exact h2
   exact h4.mono s sub
 ·rcases get_set h1 with ⟨ej,zj⟩ | ⟨n1,h1⟩
  ·rcases get_set h2 with ⟨ek,zk⟩ | ⟨n2,h2'⟩
   ·rw [ej,ek]
   ·exfalso
    cases ej
    rcases get_set h3 with ⟨_,z⟩ | ⟨n,_⟩
    ·cases z
     rw [set_ne n2] at h4
     exact no (.inr ⟨k,e',h2',h4⟩)
    ·exact n rfl
  ·rename_i hh1
   rcases get_set h2 with ⟨ek,zk⟩ | ⟨n2,h2⟩
   ·exfalso
    cases ek
    rcases get_set h4 with ⟨_,z⟩ | ⟨n,_⟩
    ·cases z
     rw [set_ne n1] at h3
     exact no (.inr ⟨j,d',h1,h3⟩)
    ·exact n rfl
   ·rw [set_ne n1] at h3
    rw [set_ne n2] at h4
    exact r.ne j k d' e' b h1 h2 h3 h4
end

section
variable {K:PySem.W.Frag} {G:Fc} {E:Ev} {σ:St} {H H':Hp}
theorem Rel.write {i:Nat} {d d':D} {a:Addr} {o':HO} (r:Rel K G E σ H) (hi:E[i]?=some (.ow d)) (ha:σ[i]?=some (some (.ref a))) (p:Own K (upd H a o') (Ow G.pr E σ) d' a):Rel K G (E.set i (.ow d')) σ (upd H a o'):=by
 have oa:Ow G.pr E σ a:=.inr ⟨i,d,hi,ha⟩
 have sub:∀ b,Ow G.pr (E.set i (.ow d')) σ b->Ow G.pr E σ b:=fun b h=>by
  rcases h with h | ⟨j,d1,h1,h2⟩
  ·exact .inl h
  ·rcases get_set h1 with ⟨e,z⟩ | ⟨n1,h1⟩
   ·subst e; exact .inr ⟨j,d,hi,h2⟩
   ·exact .inr ⟨j,d1,h1,h2⟩
 obtain ⟨a',e1,e2,e3⟩:=r.ow i d hi
 rw [ha] at e1; cases e1
 refine ⟨by simp [r.len],fun j d1 h=>?_,fun j d1 h=>?_,fun j k d1 d2 b h1 h2 h3 h4=>?_,fun b o q=>?_,r.prt⟩
 ·rcases get_set h with ⟨e,z⟩ | ⟨n1,h⟩
  ·cases z
  ·obtain ⟨u,h1,h2⟩:=r.fz j d1 h
   exact ⟨u,h1,(h2.write oa).mono (Same.refl _) sub⟩
 ·rcases get_set h with ⟨e,z⟩ | ⟨n1,h⟩
  ·cases z
   subst e
   exact ⟨a,ha,p.mono (Same.refl _) sub,e3⟩
  ·obtain ⟨u,h1,h2,h3⟩:=r.ow j d1 h
   have hu:u ≠ a:=fun z=>by subst z; exact n1 (r.ne j i d1 d u h hi h1 ha)
   refine ⟨u,h1,?_,h3⟩
   cases d1 with
   | lst ds=>obtain ⟨vs,e,q⟩:=h2; exact ⟨vs,by rw [upd_ne hu]; exact e,(q.write oa).mono (Same.refl _) sub⟩
   | dic ds=>obtain ⟨vs,e,q⟩:=h2; exact ⟨vs,by rw [upd_ne hu]; exact e,(q.write oa).mono (Same.refl _) sub⟩
   | _=>exact h2
 ·have q1:∃ x,E[j]?=some (.ow x):=by
   rcases get_set h1 with ⟨e,z⟩ | ⟨n1,h1⟩
   ·exact ⟨d,by rw [e]; exact hi⟩
   ·exact ⟨_,h1⟩
  have q2:∃ x,E[k]?=some (.ow x):=by
   rcases get_set h2 with ⟨e,z⟩ | ⟨n1,h2⟩
   ·exact ⟨d,by rw [e]; exact hi⟩
   ·exact ⟨_,h2⟩
  obtain ⟨x1,q1⟩:=q1
  obtain ⟨x2,q2⟩:=q2
  exact r.ne j k x1 x2 b q1 q2 h3 h4
 ·have hb:b ≠ a:=fun z=>by subst z; rw [e3] at q; cases q
  rw [upd_ne hb]
  exact r.base _ _ q
noncomputable def frz (i:Nat) (E:Ev):Ev:=match E[i]? with
 | some (.ow d)=>E.set i (.fz d)
 | _=>E
theorem Rel.frz {i:Nat} (r:Rel K G E σ H):Rel K G (frz i E) σ H\/∃ a ws,H a=some (.dT ws)/\G.h0 a=none/\∀ o,Rel K G (frz i E) σ (upd H a (.frz o (.dT ws))):=by
 unfold M.frz
 split
 ·rename_i d hi
  obtain ⟨a,e1,e2,e3⟩:=r.ow i d hi
  have eσ:σ.set i (some (.ref a))=σ:=by
   apply List.ext_getElem?
   intro j
   by_cases e:j=i
   ·subst e; rw [set_self (List.getElem?_eq_some_iff.mp e1).1,e1]
   ·rw [set_ne e]
  have sub:∀ b,Ow G.pr (E.set i (.fz d)) σ b->Ow G.pr E σ b/\b ≠ a:=fun b h=>by
   have h':Ow G.pr (E.set i (.fz d)) (σ.set i (some (.ref a))) b:=by rw [eσ]; exact h
   refine ⟨h'.setF,fun z=>?_⟩
   subst z
   rcases h with h | ⟨j,d1,h1,h2⟩
   ·obtain ⟨o,q,_⟩:=r.prt b h
    rw [e3] at q; cases q
   ·rcases get_set h1 with ⟨e,z⟩ | ⟨n1,h1⟩
    ·cases z
    ·exact n1 (r.ne j i d1 d b h1 hi h2 e1)
  have ne:∀ (j k:Nat) (d1 d2:D) (b:Addr),(E.set i (.fz d))[j]?=some (.ow d1)->(E.set i (.fz d))[k]?=some (.ow d2)->σ[j]?=some (some (.ref b))->σ[k]?=some (some (.ref b))->j=k:=fun j k d1 d2 b h1 h2 h3 h4=>by
   rcases get_set h1 with ⟨_,z⟩ | ⟨n1,h1⟩
   ·cases z
   rcases get_set h2 with ⟨_,z⟩ | ⟨n2,h2⟩
   ·cases z
   exact r.ne j k d1 d2 b h1 h2 h3 h4
  cases hd:isDic d with
  | false =>
   refine .inl ⟨by simp [r.len],fun j d1 h=>?_,fun j d1 h=>?_,ne,r.base,r.prt⟩
   ·rcases get_set h with ⟨e,z⟩ | ⟨n1,h⟩
    ·cases z
     subst e
     exact ⟨_,e1,(e2.mono (Same.refl _) fun b z=>(sub b z).1).rp (fun z=>(sub a z).2 rfl) hd⟩
    ·obtain ⟨u,h1,h2⟩:=r.fz j d1 h
     exact ⟨u,h1,h2.mono (Same.refl _) fun b z=>(sub b z).1⟩
   ·rcases get_set h with ⟨e,z⟩ | ⟨n1,h⟩
    ·cases z
    ·obtain ⟨u,h1,h2,h3⟩:=r.ow j d1 h
     exact ⟨u,h1,h2.mono (Same.refl _) fun b z=>(sub b z).1,h3⟩
  | true =>
   cases d with
   | dic ds =>
    obtain ⟨ws,e,t⟩:=(e2.mono (O':=Ow G.pr (E.set i (.fz (.dic ds))) σ) (Same.refl _) fun b z=>(sub b z).1).tagged (fun z=>(sub a z).2 rfl)
    refine .inr ⟨a,ws,e,e3,fun o=>⟨by simp [r.len],fun j d1 h=>?_,fun j d1 h=>?_,ne,fun b u q=>?_,r.prt⟩⟩
    ·rcases get_set h with ⟨e,z⟩ | ⟨n1,h⟩
     ·cases z
      subst e
      exact ⟨_,e1,t o⟩
     ·obtain ⟨u,h1,h2⟩:=r.fz j d1 h
      exact ⟨u,h1,(h2.mono (Same.refl _) fun b z=>(sub b z).1).tag e⟩
    ·rcases get_set h with ⟨e,z⟩ | ⟨n1,h⟩
     ·cases z
     ·obtain ⟨u,h1,h2,h3⟩:=r.ow j d1 h
      have hu:u ≠ a:=fun z=>by subst z; exact n1 (r.ne j i d1 _ u h hi h1 e1)
      refine ⟨u,h1,?_,h3⟩
      cases d1 with
      | lst ds=>obtain ⟨vs,e',q⟩:=h2; exact ⟨vs,by rw [upd_ne hu]; exact e',(q.mono (Same.refl _) fun b z=>(sub b z).1).tag e⟩
      | dic ds=>obtain ⟨vs,e',q⟩:=h2; exact ⟨vs,by rw [upd_ne hu]; exact e',(q.mono (Same.refl _) fun b z=>(sub b z).1).tag e⟩
      | _=>exact h2
    ·rw [upd_ne (fun z=>by rw [z,e3] at q; cases q)]
     exact r.base _ _ q
   | _=>cases hd
 ·exact .inl r
end

noncomputable def xSeq (m n:EX):EX:=fun E=>m E >>= fun o=>match o with
 | .nx E'=>n E'
 | o=>.ok o
noncomputable def xNil:EX:=fun E=>.ok (.nx E)
noncomputable def xRet (m:EV):EX:=fun E=>m E >>= fun d=>.ok (.rt d)
noncomputable def xRetN:EX:=fun _=>.ok (.rt .non)
noncomputable def xSet (i:Nat) (m:EV):EX:=fun E=>m E >>= fun d=>.ok (.nx (E.set i (.fz d)))
noncomputable def xOwn (i:Nat) (m:EV):EX:=fun E=>m E >>= fun d=>.ok (.nx (E.set i (.ow d)))
noncomputable def xDo (m:EV):EX:=fun E=>m E >>= fun _=>.ok (.nx E)
noncomputable def xIf (t:Ev->R Bool) (a b:EX):EX:=fun E=>t E >>= fun k=>if k=true then a E else b E
noncomputable def xFrz (i:Nat) (m:EX):EX:=fun E=>m (frz i E)
noncomputable def xApp (i:Nat) (m:EV):EX:=fun E=>match E[i]? with
 | some (.ow (.lst ds))=>m E >>= fun d=>if ds.length < 1000000 then .ok (.nx (E.set i (.ow (.lst (ds++[d]))))) else .no
 | _=>.no
noncomputable def xExt (i:Nat) (m:EV):EX:=fun E=>match E[i]? with
 | some (.ow (.lst ds))=>m E >>= fun d=>match d with
  | .lst es=>if ds.length + es.length < 1000000 then .ok (.nx (E.set i (.ow (.lst (ds++es))))) else .no
  | _=>.no
 | _=>.no
noncomputable def xPop (i j:Nat):EX:=fun E=>match E[i]? with
 | some (.ow (.lst ds))=>match ds[ds.length - 1]? with
  | some d=>.ok (.nx ((E.set i (.ow (.lst ds.dropLast))).set j (.fz d)))
  | none=>.no
 | _=>.no
noncomputable def xDput (i:Nat) (mk mv:EV):EX:=fun E=>match E[i]? with
 | some (.ow (.dic kvs))=>mv E >>= fun d=>mk E >>= fun k=>match keyOf k with
  | some ks=>if kvs.length < 1000000 then .ok (.nx (E.set i (.ow (.dic (dput kvs ks d))))) else .no
  | none=>.no
 | _=>.no
noncomputable def xLput (i:Nat) (mk mv:EV):EX:=fun E=>match E[i]? with
 | some (.ow (.lst ds))=>mv E >>= fun d=>mk E >>= fun k=>match k with
  | .int n=>match ixN ds.length n with
   | some j=>.ok (.nx (E.set i (.ow (.lst (ds.set j d)))))
   | none=>.no
  | _=>.no
 | _=>.no
section
variable {X:Cx} {G:Fc} {st:Stmt} {rest:List Stmt} {m n:EX} {e:Expr} {me:EV} {pos:Pos}
theorem sb_nil:SB X G [] xNil:=pss_nil.imp fun D σ H z0=>z0.elim fun E z0=>z0.elim fun hr f=>f σ H hr
theorem sb_cons (h1:SS X G st m) (h2:SB X G rest n):SB X G (st :: rest) (xSeq m n):=(pss_cons h1 h2).imp fun D σ H z0=>z0.elim fun E z0=>z0.elim fun hr f=>⟨E,hr,(Fin.bind f).mono fun o p=>by
 cases o with
 | nx E'=>exact fun σ' H' r'=>⟨E',r',p⟩
 | bk E'=>exact p
 | ct E'=>exact p
 | rt d=>exact p⟩
theorem sb_one (h1:SS X G st m):SB X G [st] m:=pss_one h1
theorem tagged {X:Cx} {pins:List (Addr × Obj)} {σ:St} {H:Hp} {s:Shared} {a:Addr} {ws:List (List Key × V)} (I:Inv X pins σ H s) (e:H a=some (.dT ws)):∃ o,Inv X pins σ (upd H a (.frz o (.dT ws))) s/\NF X a:=by
 obtain ⟨z,y,xs,rr,o,es,ep,h1,h2⟩:=(show ObjOk X.prog X.w H s.heap a (.dT ws) from I.hok a _ e)
 exact ⟨o,I.tag e h1⟩
theorem ss_frz (i:Nat) (h:SS X G st m):SS X G st (xFrz i m):=by
 rintro pins s σ H D I ⟨E,hr,f⟩
 rcases hr.frz (i:=i) with r | ⟨a,ws,e,_,r⟩
 ·exact h pins s σ H D I ⟨frz i E,r,f⟩
 ·obtain ⟨o,I',_⟩:=tagged I e
  exact h pins s σ _ D I' ⟨frz i E,r o,f⟩
theorem ss_ret (he:SF X G e me):SS X G (.Return (some e) pos) (xRet me):=(ps_ret he).imp fun D σ H ⟨E,hr,f⟩=>⟨E,hr,(Fin.bind f).mono fun d p v H' s z=>p v H' (hr.base.trans s) (z.mono (Same.refl _) fun _ z=>.inl z)⟩
theorem ss_set (i:Nat) {x:Str} {pos':Pos} (he:SF X G e me) (hN:X.N.Nodup) (hi:X.N[i]?=some x:=by rfl) (hx:Loc X.env.scope x:=by first | exact Or.inl rfl | exact Or.inr rfl) (hs:swapsWith e (some (.Name x pos')) pos.line X.env=pure false:=by rfl) (hf:X.fn x=true\/X.env.scope.names.lookup x=some .local:=by first | exact .inl rfl | exact .inr rfl | assumption) :
  SS X G (.Assign [.Name x pos'] e pos) (xSet i me):=(ps_set hN hi hx he hs hf).imp fun D σ H ⟨E,hr,f⟩=>⟨E,hr,(Fin.bind f).mono fun d p v H' s z=>p _ _ ((hr.same s).setF z)⟩
theorem ss_own (i:Nat) {x:Str} {pos':Pos} (he:SN X G e me) (hN:X.N.Nodup) (hi:X.N[i]?=some x:=by rfl) (hx:Loc X.env.scope x:=by first | exact Or.inl rfl | exact Or.inr rfl) (hs:swapsWith e (some (.Name x pos')) pos.line X.env=pure false:=by rfl) (hf:X.fn x=true\/X.env.scope.names.lookup x=some .local:=by first | exact .inl rfl | exact .inr rfl | assumption) :
  SS X G (.Assign [.Name x pos'] e pos) (xOwn i me):=(ps_set hN hi hx he hs hf).imp fun D σ H ⟨E,hr,f⟩=>⟨E,hr,(Fin.bind f).mono fun d p a H' s n z=>p _ _ (hr.setO s n z)⟩
theorem ss_expr (he:SE X G e me) (hs:swapsWith e none pos.line X.env=pure false:=by rfl):SS X G (.Expr e pos) (xDo me):=(ps_expr he hs).imp fun D σ H ⟨E,hr,f⟩=>⟨E,hr,(Fin.bind f).mono fun d p v H' s z=>p σ H' (hr.same s)⟩
theorem ss_if {c:Expr} {a b:List Stmt} {tc:Ev->R Bool} {ma mb:EX} (hc:ST X G c tc) (ha:SB X G a ma) (hb:SB X G b mb):SS X G (.If c a b pos) (xIf tc ma mb):=(ps_if hc ha hb).imp fun D σ H z0=>z0.elim fun E z0=>z0.elim fun hr f=>⟨E,hr,(Fin.bind f).mono fun k p H' s=>by
 cases k with
 | true=>exact ⟨E,hr.same s,p⟩
 | false=>exact ⟨E,hr.same s,p⟩⟩
noncomputable def xNever:EX:=fun _=>.no
theorem ss_never:SS X G st xNever:=ps_never.imp fun D σ H z0=>z0.elim fun E z0=>z0.elim fun hr f=>f

theorem own_slot {K:PySem.W.Frag} {E:Ev} {σ:St} {H:Hp} {i:Nat} {ds:List D} (r:Rel K G E σ H) (h:E[i]?=some (.ow (.lst ds))):∃ a vs,σ[i]?=some (some (.ref a))/\H a=some (.lst vs)/\Rps K H (Ow G.pr E σ) ds vs/\Ow G.pr E σ a:=by
 obtain ⟨a,e1,⟨vs,e2,e3⟩,_⟩:=r.ow i _ h
 exact ⟨a,vs,e1,e2,e3,.inr ⟨i,_,h,e1⟩⟩
theorem own_slotD {K:PySem.W.Frag} {E:Ev} {σ:St} {H:Hp} {i:Nat} {ds:List (List Int × D)} (r:Rel K G E σ H) (h:E[i]?=some (.ow (.dic ds))):∃ a vs,σ[i]?=some (some (.ref a))/\H a=some (.dT vs)/\Rpk K H (Ow G.pr E σ) ds vs/\Ow G.pr E σ a:=by
 obtain ⟨a,e1,⟨vs,e2,e3⟩,_⟩:=r.ow i _ h
 exact ⟨a,vs,e1,e2,e3,.inr ⟨i,_,h,e1⟩⟩
theorem pe_append {o e:Expr} {to te:TE} {apos cpos:Pos} (ho:PE X o to) (he:PE X e te) (hbase:attributeBase o "append" X.env (eval o X.env)=eval o X.env:=by rfl)
  (hfew:((backTo cpos (starEach [e] X.env)).all (fun x=>!x.1) && (backToKw cpos (keywordEach [] X.env)).all (fun x=>x.1.isSome) && decide ([e].length + ([]:List Keyword).length + (if ([]:List Keyword).isEmpty then 0 else 1) < 30))=true:=by rfl)
  (hline:(apos.endLine == cpos.line)=true:=by rfl) (hs:starEach [e] X.env=(false,eval e X.env) :: starEach [] X.env:=by rfl):PE X (.Call (.Attribute o "append" apos) [e] [] cpos) (tBM X.K "list" rAppend to (tCons te tNil)) :=
 pe_bm PySem.F.plainAttrs_list PySem.F.slot_list_append PySem.F.type_list_append mt_append ho (pa_cons he pa_nil hs) hbase hfew hline hs
theorem pe_extend {o e:Expr} {to te:TE} {apos cpos:Pos} (ho:PE X o to) (he:PE X e te) (hbase:attributeBase o "extend" X.env (eval o X.env)=eval o X.env:=by rfl)
  (hfew:((backTo cpos (starEach [e] X.env)).all (fun x=>!x.1) && (backToKw cpos (keywordEach [] X.env)).all (fun x=>x.1.isSome) && decide ([e].length + ([]:List Keyword).length + (if ([]:List Keyword).isEmpty then 0 else 1) < 30))=true:=by rfl)
  (hline:(apos.endLine == cpos.line)=true:=by rfl) (hs:starEach [e] X.env=(false,eval e X.env) :: starEach [] X.env:=by rfl):PE X (.Call (.Attribute o "extend" apos) [e] [] cpos) (tBM X.K "list" rExtend to (tCons te tNil)) :=
 pe_bm PySem.F.plainAttrs_list PySem.F.slot_list_extend PySem.F.type_list_extend mt_extend ho (pa_cons he pa_nil hs) hbase hfew hline hs
theorem ss_app (i:Nat) {x:Str} {p apos cpos:Pos} (he:SF X G e me) (hN:X.N[i]?=some x:=by rfl) (hv:Vis X.env.scope x:=by first | exact Or.inl rfl | exact Or.inr (Or.inl rfl) | exact Or.inr (Or.inr rfl)) (hd:(x == ("__debug__":Str))=false:=by decide) (hcd:(x == ("__classdict__":Str))=false:=by decide)
  (hfew:((backTo cpos (starEach [e] X.env)).all (fun x=>!x.1) && (backToKw cpos (keywordEach [] X.env)).all (fun x=>x.1.isSome) && decide ([e].length + ([]:List Keyword).length + (if ([]:List Keyword).isEmpty then 0 else 1) < 30))=true:=by rfl)
  (hline:(apos.endLine == cpos.line)=true:=by rfl) (hs:starEach [e] X.env=(false,eval e X.env) :: starEach [] X.env:=by rfl)
  (hs2:swapsWith (.Call (.Attribute (.Name x p) "append" apos) [e] [] cpos) none pos.line X.env=pure false:=by rfl):SS X G (.Expr (.Call (.Attribute (.Name x p) "append" apos) [e] [] cpos) pos) (xApp i me) :=
 (ps_expr (pe_append (pe_var hN hv hd hcd) he rfl hfew hline hs) hs2).imp fun D σ H z0=>z0.elim fun E z0=>z0.elim fun hr f=>by
  unfold xApp at f
  split at f
  ·rename_i ds hi
   obtain ⟨a,vs,e1,e2,e3,e4⟩:=own_slot hr hi
   refine ⟨_,e1,.inl ⟨rfl,vs,SqL.of e2⟩,⟨E,hr,(Fin.bind f).mono fun d p v H' s z=>?_⟩⟩
   split at p
   ·rename_i hl
    have hr':=hr.same s
    refine ⟨a,vs,v,rfl,rfl,s _ _ e2,by rw [e3.length,sizeLine_eq]; omega,p _ _ (hr'.write hi e1 ⟨_,upd_same,?_⟩)⟩
    exact Rps.write e4 ((e3.mono s fun _ z=>z).append (Rps.cons z Rps.nil))
   ·exact p.elim
  ·exact f.elim
theorem ss_ext (i:Nat) {x:Str} {p apos cpos:Pos} (he:SF X G e me) (hN:X.N[i]?=some x:=by rfl) (hv:Vis X.env.scope x:=by first | exact Or.inl rfl | exact Or.inr (Or.inl rfl) | exact Or.inr (Or.inr rfl)) (hd:(x == ("__debug__":Str))=false:=by decide) (hcd:(x == ("__classdict__":Str))=false:=by decide)
  (hfew:((backTo cpos (starEach [e] X.env)).all (fun x=>!x.1) && (backToKw cpos (keywordEach [] X.env)).all (fun x=>x.1.isSome) && decide ([e].length + ([]:List Keyword).length + (if ([]:List Keyword).isEmpty then 0 else 1) < 30))=true:=by rfl)
  (hline:(apos.endLine == cpos.line)=true:=by rfl) (hs:starEach [e] X.env=(false,eval e X.env) :: starEach [] X.env:=by rfl)
  (hs2:swapsWith (.Call (.Attribute (.Name x p) "extend" apos) [e] [] cpos) none pos.line X.env=pure false:=by rfl):SS X G (.Expr (.Call (.Attribute (.Name x p) "extend" apos) [e] [] cpos) pos) (xExt i me) :=
 (ps_expr (pe_extend (pe_var hN hv hd hcd) he rfl hfew hline hs) hs2).imp fun D σ H z0=>z0.elim fun E z0=>z0.elim fun hr f=>by
  unfold xExt at f
  split at f
  ·rename_i ds hi
   obtain ⟨a,vs,e1,e2,e3,e4⟩:=own_slot hr hi
   refine ⟨_,e1,.inl ⟨rfl,vs,SqL.of e2⟩,⟨E,hr,(Fin.bind f).mono fun d p v H' s z=>?_⟩⟩
   cases d with
   | lst es =>
    dsimp only at p
    split at p
    ·rename_i hl
     have hr':=hr.same s
     unfold Rp at z
     obtain ⟨b,ws,rfl,nb,hb,rb⟩:=z
     refine ⟨a,b,vs,ws,rfl,rfl,s _ _ e2,hb,by rw [e3.length,rb.length,sizeLine_eq]; omega,p _ _ (hr'.write hi e1 ⟨_,upd_same,?_⟩)⟩
     exact Rps.write e4 ((e3.mono s fun _ z=>z).append rb)
    ·exact p.elim
   | _=>exact p.elim
  ·exact f.elim
theorem ss_dput (i:Nat) {x:Str} {k v:Expr} {mk mv:EV} {p pos':Pos} (hu:X.A.units + 1 < cLine) (hk:SE X G k mk) (hv:SF X G v mv) (hN:X.N[i]?=some x:=by rfl) (hvs:Vis X.env.scope x:=by first | exact Or.inl rfl | exact Or.inr (Or.inl rfl) | exact Or.inr (Or.inr rfl)) (hd:(x == ("__debug__":Str))=false:=by decide) (hcd:(x == ("__classdict__":Str))=false:=by decide)
  (hs:swapsWith v (some (.Subscript (.Name x p) k pos')) pos.line X.env=pure false:=by rfl):SS X G (.Assign [.Subscript (.Name x p) k pos'] v pos) (xDput i mk mv) :=
 (ps_dput hu (pe_var hN hvs hd hcd) hk hv hs).imp fun D σ H z0=>z0.elim fun E z0=>z0.elim fun hr f=>by
  unfold xDput at f
  split at f
  ·rename_i kvs hi
   obtain ⟨a,vs,e1,e2,e3,e4⟩:=own_slotD hr hi
   refine ⟨E,hr,(Fin.bind f).mono fun d f v H1 s1 z1=>⟨_,e1,⟨E,hr.same s1,(Fin.bind f).mono fun k f w H2 s2 z2=>?_⟩⟩⟩
   cases ek:keyOf k with
   | none=>rw [ek] at f; exact f.elim
   | some ks =>
    rw [ek] at f
    dsimp only at f
    split at f
    ·rename_i hl
     obtain ⟨b,rfl,hb⟩:=key_of' ek z2
     have s:=s1.trans s2
     have e2':=s _ _ e2
     refine ⟨a,_,rfl,DPut.t e2' hb (by rw [e3.length,sizeLine_eq]; omega),f _ _ ((hr.same s).write hi e1 ⟨_,upd_same,?_⟩)⟩
     exact Rpk.write e4 (Rpk.put (e3.mono s fun _ z=>z) (z1.mono s2 fun _ z=>z))
    ·exact f.elim
  ·exact f.elim
end
end M

set_option Elab.async false
set_option linter.all false
set_option maxRecDepth 100000
namespace M
open PySem PySem.Spec PyProof.Rows L2

structure Gd (X:Cx):Prop where
 calm:X.calm=true
 po:PassesOwn (model X.prog X.w) X.A X.env X.xe
 nd:X.N.Nodup
 un:X.A.units + 40 < cLine

noncomputable def SlotOwn (E:Ev) (σ:St) (a:Addr):Prop:=∃ (i:Nat) (d:D),E[i]?=some (.ow d)/\σ[i]?=some (some (.ref a))
open Classical in
noncomputable def Fc.lock (G:Fc) (E:Ev) (σ:St) (H:Hp):Fc:={ h0:=fun a=>if SlotOwn E σ a then none else H a,pr:=G.pr,xc:=G.xc }
section
variable {K:PySem.W.Frag} {G:Fc} {E:Ev} {σ:St} {H H':Hp}
theorem lock_at {a:Addr} (h:¬ SlotOwn E σ a):(G.lock E σ H).h0 a=H a:=by unfold Fc.lock; simp [h]
theorem Rel.noOwn (r:Rel K G E σ H) {a:Addr} {o:HO} (h:G.h0 a=some o):¬ SlotOwn E σ a:=by
 rintro ⟨i,d,h1,h2⟩
 obtain ⟨b,e1,_,e3⟩:=r.ow i d h1
 rw [h2] at e1; cases e1
 rw [h] at e3; cases e3
theorem Rel.sub (r:Rel K G E σ H):Same G.h0 (G.lock E σ H).h0:=fun a o h=>by rw [lock_at (r.noOwn h)]; exact r.base _ _ h
theorem Rel.lock (r:Rel K G E σ H):Rel K (G.lock E σ H) E σ H where
 len:=r.len
 fz:=r.fz
 ow:=fun i d h=>by
  obtain ⟨a,e1,e2,e3⟩:=r.ow i d h
  refine ⟨a,e1,e2,?_⟩
  have:SlotOwn E σ a:=⟨i,d,h,e1⟩
  unfold Fc.lock; simp [this]
 ne:=r.ne
 base:=fun a o h=>by
  unfold Fc.lock at h
  dsimp only at h
  split at h
  ·cases h
  ·exact h
 prt:=fun a h=>by
  obtain ⟨o,e,n⟩:=r.prt a h
  exact ⟨_,by rw [lock_at (r.noOwn e)]; exact r.base _ _ e,n⟩
theorem Rel.weak {G':Fc} (r:Rel K G' E σ H) (s:Same G.h0 G'.h0) (e:G'.pr=G.pr) (p:∀ a,G.pr a->∃ o,G.h0 a=some o/\NoTup o):Rel K G E σ H where
 len:=r.len
 fz:=by rw [<-e]; exact r.fz
 ow:=fun i d h=>by
  rw [<-e]
  obtain ⟨a,e1,e2,e3⟩:=r.ow i d h
  refine ⟨a,e1,e2,?_⟩
  cases q:G.h0 a with
  | none=>rfl
  | some o=>rw [s _ _ q] at e3; cases e3
 ne:=r.ne
 base:=s.trans r.base
 prt:=p
end
structure Fc.Le (G G':Fc):Prop where
 h0:Same G.h0 G'.h0
 pr:∀ a o,G.h0 a=some o->G'.pr a->G.pr a
 sub:∀ a,G.pr a->G'.pr a
theorem Fc.Le.refl (G:Fc):G.Le G:=⟨Same.refl _,fun _ _ _ h=>h,fun _ h=>h⟩
theorem locked {K:PySem.W.Frag} {G G':Fc} {E E':Ev} {σ σ':St} {H H':Hp} (le:(G.lock E σ H).Le G') (r:Rel K G' E' σ' H'):∀ a o,¬ Ow G.pr E σ a->H a=some o->H' a=some o/\¬ Ow G'.pr E' σ' a:=fun a o no h=>by
 have hl:(G.lock E σ H).h0 a=some o:=by rw [lock_at fun z=>no (.inr z)]; exact h
 have hl':=le.h0 _ _ hl
 refine ⟨r.base _ _ hl',fun z=>?_⟩
 rcases z with z | ⟨i,d,h1,h2⟩
 ·exact no (.inl (le.pr _ _ hl z))
 ·obtain ⟨b,e1,_,e3⟩:=r.ow i d h1
  rw [h2] at e1; cases e1
  rw [hl'] at e3; cases e3
noncomputable def ItOk (K:PySem.W.Frag) (G0:Fc) (J:It) (ds:List D):Prop :=
 ∀ (G:Fc) (E:Ev) (σ:St) (H:Hp),G0.Le G->Rel K G E σ H->J.stop ds.length H/\∀ (i:Nat) (d:D),ds[i]?=some d->J.go i H/\∀ x H',J.yld i H x H'->Same H H'/\Rp K H' (Ow G.pr E σ) d x
noncomputable def SI (X:Cx) (G:Fc) (tg iter:Expr) (m:Ev->R (List D)):Prop :=
 PI X tg iter fun σ H Rr=>∃ E,Rel X.K G E σ H/\Fin (m E) (fun ds=>∀ J H1,Same H H1->ItOk X.K (G.lock E σ H1) J ds->Rr J H1) G.xc
noncomputable def SG (X:Cx) (tg:Expr) (ts:List Nat) (set:D->Ev->Option Ev):Prop :=
 ∃ g,PG X tg g/\∀ (G:Fc) (E E':Ev) (σ:St) (H:Hp) (d:D) (v:V) (Q:St->Hp->Prop),Rel X.K G E σ H->Rp X.K H (Ow G.pr E σ) d v->set d E=some E'->(∀ σ',(∀ j,j ∉ ts->σ'[j]?=σ[j]?)->Rel X.K G E' σ' H->Q σ' H)->g v σ H Q
noncomputable def gN (i:Nat):D->Ev->Option Ev:=fun d E=>some (E.set i (.fz d))
noncomputable def gT (i j:Nat):D->Ev->Option Ev:=fun d E=>match d with
 | .tup [a,b]=>some ((E.set i (.fz a)).set j (.fz b))
 | _=>none
noncomputable def forL (set:D->Ev->Option Ev) (b:EX):List D->Ev->R Out
 | [],E=>.ok (.nx E)
 | d :: ds,E=>match set d E with
  | none=>.no
  | some E1=>b E1 >>= fun o=>match o with
   | .nx E2=>forL set b ds E2
   | .ct E2=>forL set b ds E2
   | .bk E2=>.ok (.nx E2)
   | .rt d=>.ok (.rt d)
noncomputable def xFor (mi:Ev->R (List D)) (set:D->Ev->Option Ev) (b:EX):EX:=fun E=>mi E >>= fun ds=>forL set b ds E
noncomputable def whlN (c:Ev->R Bool) (b:EX):Nat->Ev->R Out
 | 0,_=>.no
 | n + 1,E=>c E >>= fun k=>if k=true then (b E >>= fun o=>match o with
   | .nx E2=>whlN c b n E2
   | .ct E2=>whlN c b n E2
   | .bk E2=>.ok (.nx E2)
   | .rt d=>.ok (.rt d)) else .ok (.nx E)
section
variable {X:Cx} {G:Fc} {tg iter:Expr} {body:List Stmt} {pos:Pos} {mi:Ev->R (List D)} {set:D->Ev->Option Ev} {mb:EX}
theorem sg_name (gd:Gd X) (i:Nat) {x:Str} {pos:Pos} (hi:X.N[i]?=some x:=by rfl) (hx:Loc X.env.scope x:=by first | exact Or.inl rfl | exact Or.inr rfl) (hf:X.fn x=true\/X.env.scope.names.lookup x=some .local:=by first | exact .inl rfl | exact .inr rfl | assumption):SG X (.Name x pos) [i] (gN i) :=
 ⟨_,pg_name gd.nd hi hx hf,fun G E E' σ H d v Q r p e k=>by
  unfold gN at e; cases e
  exact k _ (fun j hj=>set_ne (by simpa using hj)) (r.setF p)⟩
theorem sg_two (gd:Gd X) (i j:Nat) {x y:Str} {px py pos:Pos} {kk:Nat} (hi:X.N[i]?=some x:=by rfl) (hj:X.N[j]?=some y:=by rfl) (hx:Loc X.env.scope x:=by first | exact Or.inl rfl | exact Or.inr rfl) (hy:Loc X.env.scope y:=by first | exact Or.inl rfl | exact Or.inr rfl)
  (hf:X.fn x=true\/X.env.scope.names.lookup x=some .local:=by first | exact .inl rfl | exact .inr rfl | assumption) (hf':X.fn y=true\/X.env.scope.names.lookup y=some .local:=by first | exact .inl rfl | exact .inr rfl | assumption)
  (h1:(assignEach [Expr.Name x px,.Name y py] X.env).map (·.2)=assign (.Name x px) X.env :: (assignEach [.Name y py] X.env).map (·.2):=by rfl) (h2:(assignEach [Expr.Name y py] X.env).map (·.2)=assign (.Name y py) X.env :: (assignEach [] X.env).map (·.2):=by rfl)
  (hn:(assignEach [Expr.Name x px,.Name y py] X.env).length=2:=by rfl) (hst:(assignEach [Expr.Name x px,.Name y py] X.env).findIdx? (·.1)=none:=by rfl):SG X (.Tuple [.Name x px,.Name y py] kk pos) [i,j] (gT i j) :=
 ⟨_,pg_tup gd.calm (pgs_cons (pg_name gd.nd hi hx hf) (pgs_cons (pg_name gd.nd hj hy hf') pgs_nil h2) h1) hn hst,fun G E E' σ H d v Q r p e k=>by
  unfold gT at e
  split at e
  ·rename_i a b
   cases e
   unfold Rp at p
   obtain ⟨l,vs,rfl,no,hl,rs⟩:=p
   unfold Rps at rs
   obtain ⟨v1,r1,rfl,p1,rs⟩:=rs
   unfold Rps at rs
   obtain ⟨v2,r2,rfl,p2,rs⟩:=rs
   unfold Rps at rs
   subst rs
   refine ⟨l,[v1,v2],rfl,SqT.of hl,rfl,v1,[v2],rfl,v2,[],rfl,rfl,k _ (fun k hk=>by
    simp only [List.mem_cons,not_or] at hk
    rw [set_ne hk.2.1,set_ne hk.1]) ((r.setF p1).setF (p2.mono (Same.refl _) fun _ z=>z.setF))⟩
  ·cases e⟩
theorem ss_for {ts:List Nat} (gd:Gd X) (hi:SI X G tg iter mi) (hg:SG X tg ts set) (hb:∀ G',G'.xc=G.xc->SB X G' body mb) (hs:∀ x,foldedSetIterable iter X.env x=pure x:=by intro _; rfl):SS X G (.For tg iter body [] pos) (xFor mi set mb):=by
 obtain ⟨g,hg,hset⟩:=hg
 rintro pins s σ0 H0 Dn I ⟨E0,hr0,f0⟩
 -- the body's reading hangs on the lock: choose it within the rule
 have key:∀ (G':Fc),G'.xc=G.xc->PS X (.For tg iter body [] pos) (tFor (fun σ H Rr=>∃ E,Rel X.K G E σ H/\Fin (mi E) (fun ds=>∀ J H1,Same H H1->ItOk X.K (G.lock E σ H1) J ds->Rr J H1) G.xc) g
   (fun Dn σ H=>∃ G',G'.xc=G.xc/\∃ E,Rel X.K G' E σ H/\Fin (mb E) (OutOk X.K G' Dn) G'.xc)):=fun G' hG' =>
  ps_for gd.po gd.calm hi hg (fun pins s σ H D I ⟨G',e,h⟩=>hb G' e pins s σ H D I h) hs
 refine key G rfl pins s σ0 H0 Dn I ⟨E0,hr0,(Fin.bind f0).mono fun ds f J H1 s1 it=>?_⟩
 have hr1:=hr0.same s1
 have hsub:=hr1.sub
 have wk:∀ {E:Ev} {σ:St} {H:Hp},Rel X.K (G.lock E0 σ0 H1) E σ H->Rel X.K G E σ H:=fun r=>r.weak hsub rfl hr0.prt
 refine ⟨fun i m σ H=>∃ E,Rel X.K (G.lock E0 σ0 H1) E σ H/\i<=ds.length/\m=ds.length - i/\Fin (forL set mb (ds.drop i) E) (OutOk X.K G Dn) G.xc,⟨ds.length,E0,hr1.lock,Nat.zero_le _,by simp,by simpa using f⟩,?_⟩
 rintro i m σ H ⟨E,r,hi',rfl,f⟩
 obtain ⟨h1,h2⟩:=it _ E σ H (Fc.Le.refl _) r
 by_cases hlt:i < ds.length
 ·obtain ⟨go,yl⟩:=h2 i ds[i] (by simp [hlt])
  rw [List.drop_eq_getElem_cons hlt] at f
  unfold forL at f
  cases hse:set ds[i] E with
  | none=>rw [hse] at f; exact f.elim
  | some E1 =>
   rw [hse] at f
   refine .inr ⟨go,fun σ' H'=>∃ E2,Rel X.K (G.lock E0 σ0 H1) E2 σ' H'/\Fin (forL set mb (ds.drop (i + 1)) E2) (OutOk X.K G Dn) G.xc,fun σ' H' ⟨E2,r2,f2⟩=>⟨ds.length - (i + 1),by omega,E2,r2,hlt,rfl,f2⟩,fun x H' y=>?_⟩
   obtain ⟨s2,px⟩:=yl x H' y
   refine hset _ E E1 σ H' ds[i] x _ (r.same s2) px hse fun σ' _ r'=>⟨G.lock E0 σ0 H1,rfl,E1,r',(Fin.bind f).mono fun o p=>?_⟩
   cases o with
   | nx E2=>exact fun σ2 H2 r2=>⟨E2,r2,p⟩
   | ct E2=>exact fun σ2 H2 r2=>⟨E2,r2,p⟩
   | bk E2=>exact fun σ2 H2 r2=>p σ2 H2 (wk r2)
   | rt d=>exact fun v H2 s2 z=>p v H2 (hsub.trans s2) z
 ·have e:i=ds.length:=by omega
  subst e
  rw [List.drop_length] at f
  exact .inl ⟨h1,f σ H (wk r)⟩
noncomputable def iD (m:EV):Ev->R (List D):=fun E=>m E >>= fun d=>match d with
 | .lst ds=>.ok ds
 | _=>.no
noncomputable def iT (m:EV):Ev->R (List D):=fun E=>m E >>= fun d=>match d with
 | .tup ds=>.ok ds
 | _=>.no
noncomputable def iR1 (m:EV):Ev->R (List D):=fun E=>m E >>= fun d=>match d with
 | .int n=>if n.natAbs < 1000000 then .ok ((List.range n.toNat).map fun (k:Nat)=>D.int (k:Int)) else .no
 | _=>.no
noncomputable def iR2 (m n:EV):Ev->R (List D):=fun E=>m E >>= fun d=>n E >>= fun e=>match d,e with
 | .int a,.int b=>if a.natAbs < 1000000/\b.natAbs < 1000000 then .ok ((List.range (b - a).toNat).map fun (k:Nat)=>D.int (a + (k:Int))) else .no
 | _,_=>.no
theorem _root_.L2.PI.imp {X:Cx} {tg e:Expr} {t t':TI} (h:PI X tg e t) (i:∀ σ H Q,t' σ H Q->t σ H Q):PI X tg e t':=fun pins s σ H Q I q=>h pins s σ H Q I (i σ H Q q)
theorem si_list {m:EV} (h:SF X G iter m):SI X G tg iter (iD m):=(pi_list h).imp fun σ H Q z0=>z0.elim fun E z0=>z0.elim fun hr f=>⟨E,hr,(Fin.bind f).mono fun d p v H1 s1 z=>by
 cases d with
 | lst ds =>
  have z':=z
  unfold Rp at z
  obtain ⟨a,vs,rfl,no,ha,rs⟩:=z
  refine ⟨a,rfl,⟨vs,SqL.of ha⟩,p _ H1 s1 fun G' E' σ' H' le r'=>?_⟩
  have hl':=(locked le r' _ _ no ha).1
  refine ⟨⟨vs,SqL.of hl',by rw [rs.length]; exact Nat.le_refl _⟩,fun i d hd=>?_⟩
  obtain ⟨v,hv,pv⟩:=rs.get hd
  refine ⟨⟨vs,v,SqL.of hl',hv⟩,?_⟩
  rintro x H'' ⟨e,y⟩
  subst e
  refine ⟨Same.refl _,?_⟩
  have:=y vs (SqL.of hl')
  rw [hv] at this; cases this
  exact pv.move (locked le r')
 | _=>exact p.elim⟩
theorem it_range {K:PySem.W.Frag} {G:Fc} (lo:Int) (n:Nat):ItOk K G (Itr lo n) ((List.range n).map fun (k:Nat)=>D.int (lo + (k:Int))):=fun G' E σ H le r=>by
 refine ⟨by simp [Itr],fun i d hd=>?_⟩
 rw [List.getElem?_map] at hd
 have hi:i < n:=by
  by_cases h:i < n
  ·exact h
  ·rw [List.getElem?_eq_none (by simpa using h)] at hd; cases hd
 rw [List.getElem?_range hi] at hd
 cases hd
 refine ⟨hi,fun x H' y=>?_⟩
 obtain ⟨rfl,rfl⟩:=y
 exact ⟨Same.refl _,by unfold Rp; rfl⟩
theorem si_range1 {a:Expr} {m:EV} {p pos:Pos} (hg:Gl X "range") (hm:X.mg "range"=none) (ha:SF X G a m) (hs:starEach [a] X.env=[(false,eval a X.env)]:=by rfl):SI X G tg (.Call (.Name "range" p) [a] [] pos) (iR1 m) :=
 (pi_range1 hg hm (pa_cons ha pa_nil hs) hs).imp fun σ H Q z0=>z0.elim fun E z0=>z0.elim fun hr f=>⟨E,hr,(Fin.bind f).mono fun d p v H1 s1 z=>by
  cases d with
  | int n =>
   dsimp only at p
   split at p
   ·rename_i hn
    unfold Rp at z
    subst z
    refine ⟨n,rfl,by omega (config:={}),by omega (config:={}),p _ H1 s1 ?_⟩
    have:=it_range (K:=X.K) (G:=G.lock E σ H1) 0 n.toNat
    simp only [Int.zero_add] at this
    exact this
   ·exact p.elim
  | _=>exact p.elim⟩
theorem si_tup {m:EV} (h:SF X G iter m):SI X G tg iter (iT m):=(pi_tup h).imp fun σ H Q z0=>z0.elim fun E z0=>z0.elim fun hr f=>⟨E,hr,(Fin.bind f).mono fun d p v H1 s1 z=>by
 cases d with
 | tup ds =>
  unfold Rp at z
  obtain ⟨a,vs,rfl,no,ha,rs⟩:=z
  refine ⟨a,rfl,⟨vs,SqT.of ha⟩,p _ H1 s1 fun G' E' σ' H' le r'=>?_⟩
  have hl':=(locked le r' _ _ no ha).1
  refine ⟨⟨vs,SqT.of hl',by rw [rs.length]; exact Nat.le_refl _⟩,fun i d hd=>?_⟩
  obtain ⟨v,hv,pv⟩:=rs.get hd
  refine ⟨⟨vs,v,SqT.of hl',hv⟩,?_⟩
  rintro x H'' ⟨e,y⟩
  subst e
  refine ⟨Same.refl _,?_⟩
  have:=y vs (SqT.of hl')
  rw [hv] at this; cases this
  exact pv.move (locked le r')
 | _=>exact p.elim⟩
end

noncomputable def spD (K:PySem.W.Frag) (n:Nat) (den:List D->R D):Sp:=fun vs H Q _=>vs.length=n/\∃ (pr:Addr->Prop) (ds:List D),(∀ a,pr a->∃ o,H a=some o/\NoTup o)/\Rps K H pr ds vs/\Fin (den ds) (fun d=>∀ v H',Same H H'->Rp K H' pr d v->Q v H') fun _=>False
noncomputable def ended (r:R Out):R D:=r >>= fun o=>match o with
 | .rt d=>.ok d
 | .nx _=>.ok .non
 | _=>.no
noncomputable def startE (n:Nat) (ds:List D):Ev:=ds.map Sl.fz++List.replicate (n - ds.length) .un
noncomputable def den (n:Nat) (m:EX):List D->R D:=fun ds=>ended (m (startE n ds))
theorem rel_start {K:PySem.W.Frag} {H:Hp} {pr:Addr->Prop} {xc:Nat->Prop} {N:List Str} {ds:List D} {vs:List V} (hp:∀ a,pr a->∃ o,H a=some o/\NoTup o) (r:Rps K H pr ds vs):Rel K ⟨H,pr,xc⟩ (startE N.length ds) (L2.start N vs) H:=by
 have none_ow:∀ (i:Nat) d,(startE N.length ds)[i]? ≠ some (.ow d):=fun i d h=>by
  unfold startE at h
  rcases Nat.lt_or_ge i (ds.map Sl.fz).length with hi | hi
  ·rw [List.getElem?_append_left hi,List.getElem?_map] at h
   cases q:ds[i]? with
   | none=>rw [q] at h; cases h
   | some x=>rw [q] at h; cases h
  ·rw [List.getElem?_append_right hi,List.getElem?_replicate] at h
   split at h<;>cases h
 refine ⟨?_,fun i d h=>?_,fun i d h=>absurd h (none_ow i d),fun i j d e a h=>absurd h (none_ow i d),Same.refl _,hp⟩
 ·unfold startE L2.start
  simp [r.length]
 ·unfold startE at h
  rcases Nat.lt_or_ge i (ds.map Sl.fz).length with hi | hi
  ·rw [List.getElem?_append_left hi,List.getElem?_map] at h
   cases q:ds[i]? with
   | none=>rw [q] at h; cases h
   | some x =>
    rw [q] at h; cases h
    obtain ⟨v,e,p⟩:=r.get q
    refine ⟨v,?_,p.mono (Same.refl _) fun a z=>?_⟩
    ·unfold L2.start
     rw [List.getElem?_append_left (by rw [List.length_map,r.length]; simpa using hi),List.getElem?_map,e]; rfl
    ·rcases z with z | ⟨j,d',z,_⟩
     ·exact z
     ·exact absurd z (none_ow j d')
  ·rw [List.getElem?_append_right hi,List.getElem?_replicate] at h
   split at h<;>cases h
noncomputable abbrev bx (P:Program) (w:World) (K:PySem.W.Frag) (mg:Str->Option Value) (base:Heap) (N:List Str) (qual:Str) (sc:Scope) (f:Addr) (cdv:Value) (A:Around) (outer:List Env) (s:Shared) (H:Hp) (E:XK):Cx:=(cxOf CX0 P w K mg base N qual sc f cdv A outer s H E).nox
section
variable {P:Program} {w:World} {K:PySem.W.Frag} {mg:Str->Option Value} {base:Heap} {x qual:Str} {st:Stmt} {f:Addr} {fd:FuncData} {N ps:List Str} {k:Nat} {m:EX}
end
section
variable {X:Cx} {G:Fc} {k:Nat} {f:Addr} {fd:FuncData} {ps:List Str} {dn:List D->R D} {x:Str} {p pos:Pos} {e:Expr} {es:List Expr} {ma:Ev->R (List D)}
noncomputable def eCall (n:Nat) (dn:List D->R D) (ma:Ev->R (List D)):EV:=fun E=>ma E >>= fun ds=>if ds.length=n then dn ds else .no
theorem sf_call {n:Nat} (F:FnOk X.prog X.w X.K X.mg X.base CX0 k f fd ps (spD X.K n dn)) (hx:∀ c,¬ G.xc c) (hr:Room k X.A) (hg:Gl X x) (hm:X.mg x=some (.ref f)) (hk:PySem.W.keepIn X.K (.ref f)=true) (hb:Binds X.K fd ps [])
  (ha:SA X G (e :: es) ma) (hdb:(x == ("__debug__":Str))=false:=by decide) (he:starEach (e :: es) X.env=(false,eval e X.env) :: starEach es X.env:=by rfl) (hpl:(backTo pos (starEach es X.env)).any (·.1)=false:=by rfl) :
  SF X G (.Call (.Name x p) (e :: es) [] pos) (eCall n dn ma) :=
 (pe_call F hr hg hm hk hb .nil pass0 ha hdb he hpl).imp fun σ H Q z0=>z0.elim fun E z0=>z0.elim fun hr f=>⟨E,hr,(Fin.bind f).mono fun ds p vs H1 s1 rs=>by
  split at p
  ·rename_i hl
   refine ⟨by rw [List.append_nil,rs.length]; exact hl,Ow G.pr E σ,ds,fun a z=>(hr.same s1).owned z,by rw [List.append_nil]; exact rs,?_⟩
   revert p
   cases dn ds with
   | ok d=>exact fun p v H' s z=>p v H' (s1.trans s) z
   | er c=>exact fun p=>hx c p
   | no=>exact fun p=>p
  ·exact p.elim⟩
end
end M

set_option Elab.async false
set_option linter.all false
set_option maxRecDepth 100000
namespace M
open PySem PySem.Spec PyProof.Rows L2

section
variable {prog:Program} {w:World} {A:Around} {R:Result->Shared->Prop} {s:Shared}
theorem compLoop_go {elt target iter:Expr} {ifs:List Expr} {scope:Scope} {pos:Pos} {it acc:Value} {env:Env} (I:Nat->Shared->Prop)
  (turn:∀ n s,I n s->wpAny (model prog w) A (pyNext it) (fun r s₁=>match r with
   | none=>R (.ok .next) s₁
   | some v=>wpAny (model prog w) A (letOwnedTupleGo target it v) (fun _ s₁'=>wpAny (model prog w) A (assign target env v) (fun _ s₂ =>
     wpAny (model prog w) A (forIn ifs true fun c r=>if r=true then do let ok ← isTrue c env (eval c env); pure (ForInStep.yield ok) else pure (ForInStep.yield r)) (fun ok s₃ =>
      if ok=true then wpAny (model prog w) A (eval elt env) (fun x s₄ =>
       wpAny (model prog w) A (call (.builtin "list.append") [acc,x]) (fun _ s₅=>∃ m,m < n/\I m s₅) (fun _ _=>False) s₄) (fun _ _=>False) s₃
      else ∃ m,m < n/\I m s₃) (fun _ _=>False) s₂) (fun _ _=>False) s₁') (fun _ _=>False) s₁) (fun _ _=>False) s)
  (n:Nat) (h:I n s):codeAny (model prog w) A (.compLoop (.ListComp elt [⟨target,iter,ifs,0⟩] scope pos) 0 it acc env) R s:=by
 refine codeAny_loop rfl I (fun n s hI=>?_) n h
 show wpAny _ A ((compTurn (.ListComp elt [⟨target,iter,ifs,0⟩] scope pos) 0 it acc env).onRaise (fun x=>do noteFrame x env; theTreesLotGoes x)) _ _ s
 refine wpAny_noted ?_
 rw [compTurn_list]
 refine wpAny_bind (wpAny_standAt (wpAny_bind (wpAny_mono (turn n s hI) (fun r s₁ h₁=>?_) fun _ _ h'=>h'.elim)))
 cases r with
 | none=>exact wpAny_pure h₁
 | some v =>
  refine wpAny_bind (wpAny_mono h₁ (fun _ s₁' h₁'=>?_) fun _ _ h'=>h'.elim)
  refine wpAny_bind (wpAny_mono h₁' (fun _ s₂ h₂=>wpAny_bind (wpAny_mono h₂ (fun ok s₃ h₃=>?_) fun _ _ h'=>h'.elim)) fun _ _ h'=>h'.elim)
  cases ok with
  | false=>exact wpAny_pure ⟨rfl,h₃⟩
  | true =>
   exact wpAny_bind (wpAny_bind (wpAny_mono h₃ (fun x s₄ h₄=>wpAny_bind (wpAny_mono h₄ (fun _ s₅ h₅=>wpAny_pure (wpAny_pure ⟨rfl,h₅⟩)) fun _ _ h'=>h'.elim)) fun _ _ h'=>h'.elim))
end

noncomputable def clOf (names:List (Str × NameKind)) (env:Env):List (Str × Addr)->List (Str × Addr)
 | cs=>names.foldl (fun cs p=>if p.2 == .free then match env.cells.lookup p.1 with | some a=>(p.1,a) :: cs | none=>cs else cs) cs
theorem clOf_cons {env:Env} {cs:List (Str × Addr)} {p:Str × NameKind} {r:List (Str × NameKind)}:clOf (p :: r) env cs=clOf r env (if p.2 == .free then match env.cells.lookup p.1 with | some a=>(p.1,a) :: cs | none=>cs else cs):=rfl
theorem closure_eq {scope:Scope} {env:Env} (h:∀ p ∈ scope.names,p.2=.free->∃ c,env.cells.lookup p.1=some c):closureFor scope env=pure (clOf scope.names env []):=by
 unfold closureFor
 have go:∀ (l:List (Str × NameKind)) (cs:List (Str × Addr)),(∀ p ∈ l,p.2=.free->∃ c,env.cells.lookup p.1=some c) →
   (forIn l cs fun (x:Str × NameKind) r=>(match x with | (name,kind)=>if (kind == NameKind.free)=true then do let a ← cellOf env name; pure (ForInStep.yield ((name,a) :: r)) else pure (ForInStep.yield r):Sem (ForInStep (List (Str × Addr)))))=pure (clOf l env cs):=by
  intro l
  induction l with
  | nil=>intro cs _; rfl
  | cons p r ih =>
   intro cs hp
   obtain ⟨name,kind⟩:=p
   rw [List.forIn_cons]
   dsimp only
   by_cases hk:kind=.free
   ·subst hk
    obtain ⟨c,hc⟩:=hp _ List.mem_cons_self rfl
    have e1:cellOf env name=pure c:=by unfold cellOf; rw [show env.cells.lookup name=some c from hc]
    simp only [beq_self_eq_true,if_true,e1,pure_bind]
    rw [ih _ fun q hq=>hp q (List.mem_cons_of_mem _ hq),clOf_cons]
    simp only [beq_self_eq_true,if_true]
    rw [show env.cells.lookup name=some c from hc]
   ·have hb:(kind == NameKind.free)=false:=by simpa using hk
    simp only [hb,Bool.false_eq_true,if_false,pure_bind]
    rw [ih _ fun q hq=>hp q (List.mem_cons_of_mem _ hq),clOf_cons]
    simp only [hb,Bool.false_eq_true,if_false]
 have:=go scope.names [] h
 simp only [bind_pure]
 exact this
theorem clOf_mem {env:Env}:∀ {l:List (Str × NameKind)} {cs:List (Str × Addr)} {x:Str} {c:Addr},(clOf l env cs).lookup x=some c->cs.lookup x=some c\/((x,.free) ∈ l/\env.cells.lookup x=some c)
 | [],cs,x,c,h=>.inl h
 | (n,k) :: r,cs,x,c,h=>by
  rw [clOf_cons] at h
  rcases clOf_mem h with h | ⟨h1,h2⟩
  ·by_cases hk:k=.free
   ·subst hk
    simp only [beq_self_eq_true,if_true] at h
    cases e:env.cells.lookup n with
    | none=>rw [e] at h; exact .inl h
    | some a =>
     rw [e] at h
     dsimp only at h
     rw [List.lookup_cons] at h
     cases hx:x == n with
     | true =>
      rw [hx] at h
      cases h
      have:=eq_of_beq hx
      subst this
      exact .inr ⟨List.mem_cons_self,e⟩
     | false=>rw [hx] at h; exact .inl h
   ·have hb:(k == NameKind.free)=false:=by simpa using hk
    simp only [hb,Bool.false_eq_true,if_false] at h
    exact .inl h
  ·exact .inr ⟨List.mem_cons_of_mem _ h1,h2⟩
theorem clOf_keep {env:Env} {x:Str}:∀ {l:List (Str × NameKind)} {cs:List (Str × Addr)},(∃ c,cs.lookup x=some c)->∃ c,(clOf l env cs).lookup x=some c
 | [],cs,h=>h
 | (n,k) :: r,cs,h=>by
  rw [clOf_cons]
  apply clOf_keep
  by_cases hk:(k == NameKind.free)=true
  ·rw [if_pos hk]
   cases e:env.cells.lookup n with
   | none=>exact h
   | some a =>
    dsimp only
    rw [List.lookup_cons]
    cases hx:x == n with
    | true=>exact ⟨a,rfl⟩
    | false=>exact h
  ·rw [if_neg hk]; exact h
theorem clOf_has {env:Env} {x:Str} {c:Addr} (hc:env.cells.lookup x=some c):∀ {l:List (Str × NameKind)} {cs:List (Str × Addr)},(x,.free) ∈ l->∃ c,(clOf l env cs).lookup x=some c
 | [],cs,h=>by simp at h
 | (n,k) :: r,cs,h=>by
  rw [clOf_cons]
  rcases List.mem_cons.mp h with h | h
  ·cases h
   apply clOf_keep
   simp only [beq_self_eq_true,if_true]
   rw [hc]
   exact ⟨c,by simp [List.lookup_cons]⟩
  ·exact clOf_has hc h
noncomputable def cxc (X:Cx) (scope:Scope) (s3:Shared) (H3:Hp) (fp:List Addr) (C:Addr):Cx :=
 { X with env:=compEnvC scope (clOf scope.names X.env []) C X.env,outer:=X.stack,s₀:=s3,H₀:=H3,ex:=fp,fn:=fun x=>decide (scope.names.lookup x=some .local),pn:=[],xe:=fun _ _=>False }
structure CScope (X:Cx) (scope:Scope):Prop where
 kind:scope.kind=.function
 nocell:∀ y ∈ scope.names,y.2 ≠ .cell
 names:∀ y ∈ scope.names,scope.names.lookup y.1=some y.2
 free:∀ y ∈ scope.names,y.2=.free->X.env.kindOf y.1=some .cell\/X.env.kindOf y.1=some .free
section
variable {X:Cx} {scope:Scope} {pins:List (Addr × Obj)} {σ:St} {H:Hp} {s:Shared}
theorem relabel_lookup {env:Env}:∀ {names:List (Str × NameKind)} {x:Str} {k:NameKind},(names.map fun (n,k)=>if (k == NameKind.free && env.scope.kind == .function && env.kindOf n == some .cell) then (n,NameKind.cell) else (n,k)).lookup x=some k →
  ∃ k0,names.lookup x=some k0/\(k=k0\/(k0=.free/\k=.cell))
 | [],x,k,h=>by simp at h
 | (n,k0) :: r,x,k,h=>by
  rw [List.map_cons] at h
  have key:∀ p:Str × NameKind,p.1=n->(p.2=k0\/(k0=.free/\p.2=.cell))->List.lookup x (p :: List.map (fun (n,k)=>if (k == NameKind.free && env.scope.kind == .function && env.kindOf n == some .cell) then (n,NameKind.cell) else (n,k)) r)=some k →
    ∃ k0',List.lookup x ((n,k0) :: r)=some k0'/\(k=k0'\/(k0'=.free/\k=.cell)):=fun p hp hk hl=>by
   obtain ⟨p1,p2⟩:=p
   dsimp only at hp hk
   subst hp
   rw [List.lookup_cons] at hl ⊢
   cases hx:x == p1 with
   | true=>rw [hx] at hl; cases hl; exact ⟨k0,rfl,hk⟩
   | false=>rw [hx] at hl; exact relabel_lookup hl
  dsimp only at h
  split at h
  ·rename_i hc
   refine key _ rfl (.inr ⟨?_,rfl⟩) h
   simp only [Bool.and_eq_true,beq_iff_eq] at hc
   exact hc.1.1
  ·exact key _ rfl (.inl rfl) h
theorem cxc_ok (S:CScope X scope) (I:Inv X pins σ H s) {fp:List Addr} (f:∀ b ∈ fp,FpOk X pins H b) (lt:∀ b ∈ fp,b < s.heap.objs.size):(cxc X scope s H fp s.heap.objs.size).Ok where
 mod:=I.ok.mod
 kind:=S.kind
 glob:=I.ok.glob
 blt:=I.ok.blt
 above:=Nat.le_refl _
 inj:=fun x y c h1 h2=>by
  rcases clOf_mem h1 with h | ⟨_,h1⟩
  ·simp at h
  rcases clOf_mem h2 with h | ⟨_,h2⟩
  ·simp at h
  exact I.ok.inj x y c h1 h2
 has:=fun x hx=>by
  have hx':∃ k,(relabel scope X.env).names.lookup x=some k/\(k=.cell\/k=.free):=by
   rcases hx with hx | hx
   ·exact ⟨_,hx,.inl rfl⟩
   ·exact ⟨_,hx,.inr rfl⟩
  obtain ⟨k,hk,hk2⟩:=hx'
  obtain ⟨k0,h0,hh⟩:=relabel_lookup hk
  have hm:=PySem.mem_of_lookup h0
  have hf:k0=.free:=by
   rcases hh with rfl | ⟨h,_⟩
   ·rcases hk2 with rfl | rfl
    ·exact absurd rfl (S.nocell _ hm)
    ·rfl
   ·exact h
  subst hf
  obtain ⟨c,hc⟩:=I.ok.has x (S.free _ hm rfl)
  exact clOf_has hc hm
 cab:=fun x c hf h=>by
  have hl:scope.names.lookup x=some .local:=by simpa [cxc] using hf
  rcases clOf_mem h with h | ⟨h1,_⟩
  ·simp at h
  ·have:=S.names _ h1
   rw [hl] at this; cases this
 hd:=I.ok.hd
 frames:=I.ok.frames
 stk:=.inl rfl
 exf:=fun b hb=>⟨Nat.ne_of_lt (lt b hb),fun x c h=>by
  rcases clOf_mem h with h | ⟨_,h⟩
  ·simp at h
  ·exact (f b hb).2.2.2.2.1 x c h⟩
 bs:=I.bs
 bsz:=Nat.le_trans I.ok.bsz I.sz
 noex:=fun b o e hb=>by
  rcases (f b hb).2.2.2.1 with h | h
  ·exact I.ok.noex b o e h
  ·have h2:b < X.base.objs.size:=Heap.lt_size e
   exact absurd (Nat.lt_of_lt_of_le h2 (Nat.le_trans I.ok.bsz h)) (Nat.lt_irrefl _)
 exfs:=fun b hb z=>by
  rcases List.mem_cons.mp (I.stkSub b z) with z | z
  ·exact (f b hb).2.1 z
  ·exact (f b hb).2.2.1 z
 funs:=I.stack
 frf:=I.stkFree

noncomputable def clr:List Nat->Ev->Ev
 | [],E=>E
 | i :: r,E=>clr r (E.set i .un)
noncomputable def clrS:List Nat->St->St
 | [],σ=>σ
 | i :: r,σ=>clrS r (σ.set i none)
theorem clrS_len:∀ (ts:List Nat) (σ:St),(clrS ts σ).length=σ.length
 | [],σ=>rfl
 | i :: r,σ=>by unfold clrS; rw [clrS_len r]; simp
theorem clrS_get:∀ (ts:List Nat) (σ:St) (j:Nat),(clrS ts σ)[j]?=if j ∈ ts then (if j < σ.length then some none else none) else σ[j]?
 | [],σ,j=>by simp [clrS]
 | i :: r,σ,j=>by
  unfold clrS
  rw [clrS_get r]
  by_cases h:j ∈ r
  ·simp [h]
  ·by_cases e:j=i
   ·subst e
    simp only [h,if_false,List.mem_cons,true_or,if_true]
    by_cases hl:j < σ.length
    ·rw [set_self hl]; simp [hl]
    ·simp [hl]
   ·simp only [h,if_false,List.mem_cons,e,or_self,if_false]
    exact set_ne e
theorem clr_get:∀ (ts:List Nat) (E:Ev) (j:Nat),(clr ts E)[j]?=if j ∈ ts then (if j < E.length then some .un else none) else E[j]?
 | [],σ,j=>by simp [clr]
 | i :: r,σ,j=>by
  unfold clr
  rw [clr_get r]
  by_cases h:j ∈ r
  ·simp [h]
  ·by_cases e:j=i
   ·subst e
    simp only [h,if_false,List.mem_cons,true_or,if_true]
    by_cases hl:j < σ.length
    ·rw [set_self hl]; simp [hl]
    ·simp [hl]
   ·simp only [h,if_false,List.mem_cons,e,or_self,if_false]
    exact set_ne e
theorem clr_len (ts:List Nat):∀ (E:Ev),(clr ts E).length=E.length:=by
 induction ts with
 | nil=>intro E; rfl
 | cons i r ih=>intro E; unfold clr; rw [ih]; simp
theorem clr_some {ts:List Nat} {E:Ev} {j:Nat} {x:Sl} (hx:x ≠ .un) (h:(clr ts E)[j]?=some x):j ∉ ts/\E[j]?=some x:=by
 rw [clr_get] at h
 by_cases hj:j ∈ ts
 ·rw [if_pos hj] at h
  split at h
  ·cases h; exact absurd rfl hx
  ·cases h
 ·rw [if_neg hj] at h
  exact ⟨hj,h⟩
theorem inv_block (S:CScope X scope) (I:Inv X pins σ H s) {fp:List Addr} (f:∀ b ∈ fp,FpOk X pins H b) (lt:∀ b ∈ fp,b < s.heap.objs.size) {ts:List Nat} (hts:∀ (i:Nat) x,X.N[i]?=some x->scope.names.lookup x=some .local->i ∈ ts)
  {h':Heap} (hns:h'.Ns s.heap.objs.size fun _=>none) (keep:∀ b o,s.heap.get? b=some o->h'.get? b=some o) {tk:Nat}:Inv (cxc X scope s H fp s.heap.objs.size) [] (clrS ts σ) H { s with heap:=h',toks:=tk }:=by
 refine ⟨cxc_ok S I f lt,rfl,I.bare,Un.kept keep,⟨_,hns,fun i x v h1 h2 h3=>?_⟩,fun x c h=>?_,I.hok.fresh (Nat.le_refl _),fun x c h=>?_,fun p hp=>absurd hp (by simp [cxc]),I.hok.kept keep,?_⟩
 ·have h1:X.N[i]?=some x:=h1
  have hi:i ∉ ts/\σ[i]?=some (some v):=by
   rw [clrS_get] at h2
   by_cases hj:i ∈ ts
   ·rw [if_pos hj] at h2
    split at h2<;>cases h2
   ·rw [if_neg hj] at h2
    exact ⟨hj,h2⟩
  have hk:∃ k,(relabel scope X.env).names.lookup x=some k/\(k=.local\/k=.cell\/k=.free):=by
   rcases h3 with h | h | h
   ·exact ⟨_,h,.inl rfl⟩
   ·exact ⟨_,h,.inr (.inl rfl)⟩
   ·exact ⟨_,h,.inr (.inr rfl)⟩
  obtain ⟨k,hk,hk2⟩:=hk
  obtain ⟨k0,h0,hh⟩:=relabel_lookup hk
  have hm:=PySem.mem_of_lookup h0
  have hf:k0=.free:=by
   rcases hh with rfl | ⟨h,_⟩
   ·rcases hk2 with rfl | rfl | rfl
    ·exact absurd (hts i x h1 h0) hi.1
    ·exact absurd rfl (S.nocell _ hm)
    ·rfl
   ·exact h
  subst hf
  have hk3:k=.cell\/k=.free:=by
   rcases hh with rfl | ⟨_,h⟩
   ·exact .inr rfl
   ·exact .inl h
  obtain ⟨m,_,hl⟩:=I.loc
  have kx:=S.free _ hm rfl
  have vis:Vis X.env.scope x:=by
   rcases kx with kx | kx
   ·exact .inr (.inl kx)
   ·exact .inr (.inr kx)
  obtain ⟨u,ru,lk⟩:=hl i x v h1 hi.2 vis
  refine ⟨u,ru,?_⟩
  rcases lk with ⟨q,_⟩ | ⟨_,c,hc,hcell⟩
  ·exfalso
   rcases kx with kx | kx<;>(have z:=q.symm.trans kx; cases z)
  ·obtain ⟨c',hc'⟩:=clOf_has hc (cs:=[]) hm
   have:c'=c:=by
    rcases clOf_mem hc' with z | ⟨_,z⟩
    ·simp at z
    ·exact Option.some.inj (z.symm.trans hc)
   subst this
   refine .inr ⟨?_,c',hc',?_⟩
   ·rcases hk3 with rfl | rfl
    ·exact .inl hk
    ·exact .inr hk
   ·obtain ⟨o,e,rest⟩:=hcell
    exact ⟨o,keep _ _ e,rest⟩
 ·rcases clOf_mem h with z | ⟨_,z⟩
  ·simp at z
  ·obtain ⟨v,o,e,rest⟩:=I.cell x c z
   exact ⟨v,o,keep _ _ e,rest⟩
 ·rcases clOf_mem h with z | ⟨_,z⟩
  ·simp at z
  ·exact I.freeC x c z
 ·rw [clrS_len]; exact I.len
end

noncomputable def compL (set:D->Ev->Option Ev) (mt:Ev->R Bool) (me:EV) (E:Ev):List D->R (List D)
 | []=>.ok []
 | d :: ds=>match set d E with
  | none=>.no
  | some E1=>mt E1 >>= fun k=>if k=true then (me E1 >>= fun y=>compL set mt me E ds >>= fun ys=>.ok (y :: ys)) else compL set mt me E ds
noncomputable def noOw (ts:List Nat) (E:Ev):Bool:=ts.all fun i=>match E[i]? with
 | some (.ow _)=>false
 | _=>true
noncomputable def eComp (ts:List Nat) (set:D->Ev->Option Ev) (mi:Ev->R (List D)) (mt:Ev->R Bool) (me:EV):EV:=fun E =>
 if noOw ts E=true then (mi E >>= fun ds=>if ds.length<=1000000 then (compL set mt me (clr ts E) ds >>= fun ys=>.ok (.lst ys)) else .no) else .no
noncomputable def SC (X:Cx) (G:Fc) (ifs:List Expr) (mt:Ev->R Bool):Prop :=
 ∀ (pins:List (Addr × Obj)) (s:Shared) (σ:St) (H:Hp) (Q:Bool->Hp->Prop),Inv X pins σ H s->(∃ E,Rel X.K G E σ H/\Fin (mt E) (fun b=>∀ H',Same H H'->Q b H') G.xc) →
  wpAny (model X.prog X.w) X.A (forIn ifs true fun c r=>if r=true then do let ok ← isTrue c X.env (eval c X.env); pure (ForInStep.yield ok) else pure (ForInStep.yield r)) (TP X pins σ Q) X.xe s
noncomputable def tTrue:Ev->R Bool:=fun _=>.ok true
section
variable {X:Cx} {G:Fc}
theorem sc_nil:SC X G [] tTrue:=fun pins s σ H Q I ⟨E,hr,f⟩=>wpAny_pure ⟨H,I,f H (Same.refl _)⟩
theorem sc_one {c:Expr} {mt:Ev->R Bool} (h:ST X G c mt):SC X G [c] mt:=by
 rintro pins s σ H Q I ⟨E,hr,f⟩
 rw [List.forIn_cons]
 simp only [if_true]
 refine wpAny_bind (wpAny_bind (thn (h pins s σ H Q I ⟨E,hr,f⟩) fun b s1 q=>wpAny_pure ?_))
 exact wpAny_pure q
end
theorem Un.post {fs ex:List Addr} {H H1:Hp} {h h1 h2:Heap} {C:Addr} (u:Un fs ex H H1 h h1) (k:∀ b o,b ≠ C->h1.get? b=some o->h2.get? b=some o) (n:∀ b o,h.get? b=some o->b ≠ C):Un fs ex H H1 h h2 where
 keep:=fun b o q m hb he=>k b o (n b o q) (u.keep b o q m hb he)
 slot:=fun b o q m hb he=>by obtain ⟨sl,e⟩:=u.slot b o q m hb he; exact ⟨sl,k b _ (n b o q) e⟩
 free:=u.free
 there:=fun b o q he=>by obtain ⟨o',e⟩:=u.there b o q he; exact ⟨o',k b _ (n b o q) e⟩
 tups:=u.tups
 frzs:=u.frzs
 tbls:=u.tbls
theorem HOk.post {P:Program} {w:World} {H:Hp} {h h':Heap} {C:Addr} (x:HOk P w H h) (n:H C=none) (k:∀ b o,b ≠ C->h.get? b=some o->h'.get? b=some o):HOk P w H h':=fun a o e =>
 (x a o e).stay (fun b u hb q=>k b u (by
  rcases hb with rfl | hb
  ·exact fun z=>by subst z; rw [n] at e; cases e
  ·exact fun z=>by subst z; rw [n] at hb; cases hb) q) (fun _ q=>q) fun _ _ q=>q
section
variable {K:PySem.W.Frag} {G:Fc} {E:Ev} {σ:St} {H H':Hp}
noncomputable def Fc.in (G:Fc) (E:Ev) (σ:St) (H:Hp) (L:Addr) (vs:List V):Fc:=⟨fun b=>if b=L then some (.lst vs) else (G.lock E σ H).h0 b,fun a=>G.pr a\/a=L,G.xc⟩
theorem in_le {L:Addr} {vs:List V} (n:H L=none):(G.lock E σ H).Le (G.in E σ H L vs) where
 h0:=fun b o h=>by
  have hb:b ≠ L:=fun z=>by
   subst z
   unfold Fc.lock at h
   dsimp only at h
   split at h
   ·cases h
   ·rw [n] at h; cases h
  unfold Fc.in
  simp only [hb,if_false]
  exact h
 pr:=fun b o h z=>by
  rcases z with z | z
  ·exact z
  ·subst z
   unfold Fc.lock at h
   dsimp only at h
   split at h
   ·cases h
   ·rw [n] at h; cases h
 sub:=fun a h=>.inl h
theorem ow_clr {pr:Addr->Prop} {ts:List Nat} {σ':St} {a:Addr} (hσ:∀ j,j ∉ ts->σ'[j]?=σ[j]?) (h:Ow pr (clr ts E) σ' a):Ow pr E σ a:=by
 rcases h with h | ⟨i,d,h1,h2⟩
 ·exact .inl h
 ·obtain ⟨hi,h1⟩:=clr_some (by intro z; cases z) h1
  rw [hσ i hi] at h2
  exact .inr ⟨i,d,h1,h2⟩
theorem ow_clr' {pr:Addr->Prop} {ts:List Nat} {σ':St} {a:Addr} (no:noOw ts E=true) (hσ:∀ j,j ∉ ts->σ'[j]?=σ[j]?) (h:Ow pr E σ a):Ow pr (clr ts E) σ' a:=by
 rcases h with h | ⟨i,d,h1,h2⟩
 ·exact .inl h
 ·have hi:i ∉ ts:=fun hi=>by
   have:=List.all_eq_true.mp no i hi
   rw [h1] at this
   cases this
  exact .inr ⟨i,d,by rw [clr_get,if_neg hi]; exact h1,by rw [hσ i hi]; exact h2⟩
theorem Rel.block {ts:List Nat} {L:Addr} (r:Rel K G E σ H) (n:H L=none):Rel K (G.in E σ H L []) (clr ts E) (clrS ts σ) (upd H L (.lst [])):=by
 have hσ:∀ j,j ∉ ts->(clrS ts σ)[j]?=σ[j]?:=fun j hj=>by rw [clrS_get,if_neg hj]
 have sub:∀ b,Ow (G.in E σ H L []).pr (clr ts E) (clrS ts σ) b->Ow G.pr E σ b\/b=L:=fun b h=>by
  rcases h with (h | h) | h
  ·exact .inl (.inl h)
  ·exact .inr h
  ·exact .inl (ow_clr hσ (.inr h))
 refine ⟨by rw [clr_len,clrS_len]; exact r.len,fun i d h=>?_,fun i d h=>?_,fun i j d e a h1 h2 h3 h4=>?_,fun b o h=>?_,fun a h=>?_⟩
 ·obtain ⟨hi,h⟩:=clr_some (by intro z; cases z) h
  obtain ⟨v,e,p⟩:=r.fz i d h
  exact ⟨v,by rw [hσ i hi]; exact e,(p.fresh n).mono (same_upd n) sub⟩
 ·obtain ⟨hi,h⟩:=clr_some (by intro z; cases z) h
  obtain ⟨a,e1,e2,e3⟩:=r.ow i d h
  have ha:a ≠ L:=fun z=>by subst z; obtain ⟨o,q,_⟩:=e2.there; rw [n] at q; cases q
  refine ⟨a,by rw [hσ i hi]; exact e1,?_,?_⟩
  ·have h4:Own K H (fun b=>Ow G.pr E σ b\/b=L) d a:=by
    cases d with
    | lst ds=>obtain ⟨vs,e,q⟩:=e2; exact ⟨vs,e,q.fresh n⟩
    | dic ds=>obtain ⟨vs,e,q⟩:=e2; exact ⟨vs,e,q.fresh n⟩
    | _=>exact e2
   exact h4.mono (same_upd n) sub
  ·have:SlotOwn E σ a:=⟨i,d,h,e1⟩
   unfold Fc.in Fc.lock
   simp [ha,this]
 ·obtain ⟨hi,h1⟩:=clr_some (by intro z; cases z) h1
  obtain ⟨hj,h2⟩:=clr_some (by intro z; cases z) h2
  rw [hσ i hi] at h3
  rw [hσ j hj] at h4
  exact r.ne i j d e a h1 h2 h3 h4
 ·unfold Fc.in at h
  dsimp only at h
  split at h
  ·rename_i e; subst e; rw [upd_same]; exact h
  ·rename_i e; rw [upd_ne e]; exact r.lock.base _ _ h
 ·rcases h with h | h
  ·obtain ⟨o,q,nt⟩:=r.lock.prt a h
   refine ⟨o,?_,nt⟩
   exact (in_le n).h0 _ _ q
  ·subst h
   exact ⟨.lst [],by unfold Fc.in; simp,True.intro⟩
theorem Rel.bump {E0:Ev} {σ0:St} {H0:Hp} {L:Addr} {vs ws:List V} (r:Rel K (G.in E0 σ0 H0 L vs) E σ H):Rel K (G.in E0 σ0 H0 L ws) E σ (upd H L (.lst ws)):=by
 have hL:Ow (G.in E0 σ0 H0 L vs).pr E σ L:=.inl (.inr rfl)
 refine ⟨r.len,fun i d h=>?_,fun i d h=>?_,r.ne,fun b o h=>?_,fun a h=>?_⟩
 ·obtain ⟨v,e,p⟩:=r.fz i d h
  exact ⟨v,e,p.write hL⟩
 ·obtain ⟨a,e1,e2,e3⟩:=r.ow i d h
  have ha:a ≠ L:=fun z=>by subst z; unfold Fc.in at e3; simp at e3
  refine ⟨a,e1,?_,?_⟩
  ·cases d with
   | lst ds=>obtain ⟨vs,e,q⟩:=e2; exact ⟨vs,by rw [upd_ne ha]; exact e,q.write hL⟩
   | dic ds=>obtain ⟨vs,e,q⟩:=e2; exact ⟨vs,by rw [upd_ne ha]; exact e,q.write hL⟩
   | _=>exact e2
  ·unfold Fc.in at e3 ⊢
   simp only [ha,if_false] at e3 ⊢
   exact e3
 ·by_cases e:b=L
  ·subst e
   unfold Fc.in at h
   simp at h
   rw [upd_same,h]
  ·rw [upd_ne e]
   refine r.base _ _ ?_
   unfold Fc.in at h ⊢
   simp only [e,if_false] at h ⊢
   exact h
 ·obtain ⟨o,q,nt⟩:=r.prt a h
  by_cases e:a=L
  ·subst e; exact ⟨.lst ws,by unfold Fc.in; simp,True.intro⟩
  ·refine ⟨o,?_,nt⟩
   unfold Fc.in at q ⊢
   simp only [e,if_false] at q ⊢
   exact q
theorem Rel.un {i:Nat} (r:Rel K G E σ H):Rel K G (E.set i .un) σ H:=by
 have sub:∀ b,Ow G.pr (E.set i .un) σ b->Ow G.pr E σ b:=fun b h=>by
  rcases h with h | ⟨j,d,h1,h2⟩
  ·exact .inl h
  ·rcases get_set h1 with ⟨_,z⟩ | ⟨_,h1⟩
   ·cases z
   ·exact .inr ⟨j,d,h1,h2⟩
 refine ⟨by simp [r.len],fun j d h=>?_,fun j d h=>?_,fun j k d e a h1 h2 h3 h4=>?_,r.base,r.prt⟩
 ·rcases get_set h with ⟨_,z⟩ | ⟨_,h⟩
  ·cases z
  ·obtain ⟨v,e,p⟩:=r.fz j d h; exact ⟨v,e,p.mono (Same.refl _) sub⟩
 ·rcases get_set h with ⟨_,z⟩ | ⟨_,h⟩
  ·cases z
  ·obtain ⟨a,e1,e2,e3⟩:=r.ow j d h; exact ⟨a,e1,e2.mono (Same.refl _) sub,e3⟩
 ·rcases get_set h1 with ⟨_,z⟩ | ⟨_,h1⟩
  ·cases z
  rcases get_set h2 with ⟨_,z⟩ | ⟨_,h2⟩
  ·cases z
  exact r.ne j k d e a h1 h2 h3 h4
theorem Rel.clr:∀ {ts:List Nat} {E:Ev},Rel K G E σ H->Rel K G (clr ts E) σ H
 | [],E,r=>r
 | i :: ts,E,r=>by unfold M.clr; exact Rel.clr r.un
end

section
variable {X:Cx} {G:Fc} {elt iter tg:Expr} {ifs:List Expr} {scope:Scope} {pos:Pos} {ts:List Nat} {set:D->Ev->Option Ev} {mi:Ev->R (List D)} {mt:Ev->R Bool} {me:EV}
structure CompOk (X:Cx) (xc:Nat->Prop) (elt tg:Expr) (ifs:List Expr) (scope:Scope) (ts:List Nat) (set:D->Ev->Option Ev) (mt:Ev->R Bool) (me:EV):Prop where
 S:CScope X scope
 loc:∀ (i:Nat) x,X.N[i]?=some x->scope.names.lookup x=some .local->i ∈ ts
 hset:∀ d E E',set d E=some E'->clr ts E'=clr ts E
 hg:∀ s3 H3 fp C,SG (cxc X scope s3 H3 fp C) tg ts set
 hc:∀ s3 H3 fp C G',G'.xc=xc->SC (cxc X scope s3 H3 fp C) G' ifs mt
 he:∀ s3 H3 fp C G',G'.xc=xc->SF (cxc X scope s3 H3 fp C) G' elt me
structure CompI (X:Cx) (G:Fc) (scope:Scope) (ts:List Nat) (set:D->Ev->Option Ev) (mt:Ev->R Bool) (me:EV) (E:Ev) (σ:St) (H2 H3:Hp) (s3:Shared) (L C:Addr) (fp:List Addr) (tn:Nat->Heap->Prop) (ds all:List D)
  (n:Nat) (s':Shared) (i:Nat) (σi:St) (Hi:Hp) (vs:List V) (ys rest:List D):Prop where
 hn:n=ds.length - i
 hi:i<=ds.length
 Ii:Inv (cxc X scope s3 H3 fp C) [] σi Hi s'
 sti:tn i s'.heap
 fri:∀ b ∈ fp,Hi b=none
 hL:Hi L=some (.lst vs)
 rps:Rps X.K Hi (Ow (G.in E σ H2 L vs).pr (clr ts E) σi) ys vs
 ri:Rel X.K (G.in E σ H2 L vs) (clr ts E) σi Hi
 hσ:∀ j,j ∉ ts->σi[j]?=σ[j]?
 sm:Same H2 Hi
 hle:ys.length<=i
 hc:compL set mt me (clr ts E) (ds.drop i)=.ok rest
 hall:all=ys++rest
theorem comp_loop {σ:St} {H2:Hp} {E:Ev} {ds all:List D} {it L C:Addr} {fp:List Addr} {tn:Nat->Heap->Prop} {J:It} {RR:Result->Shared->Prop} {s3:Shared} {H3:Hp} (calm:X.calm=true) (hx:∀ c,¬ G.xc c) (O:CompOk X G.xc elt tg ifs scope ts set mt me)
  (T:Turn X.prog X.w X.K tg J fp it tn) (itB:∀ (vs:List V) (E':Ev) (σ':St) (H':Hp),Rel X.K (G.in E σ H2 L vs) E' σ' H'->J.stop ds.length H'/\∀ (i:Nat) (d:D),ds[i]?=some d->J.go i H'/\∀ x H'',J.yld i H' x H''->Same H' H''/\Rp X.K H'' (Ow (G.in E σ H2 L vs).pr E' σ') d x)
  (hlen:ds.length<=1000000) (nL:H2 L=none)
  (fin:∀ (σe:St) (He:Hp) (vs:List V) (s1:Shared),Inv (cxc X scope s3 H3 fp C) [] σe He s1->He L=some (.lst vs)->Rps X.K He (Ow (G.in E σ H2 L vs).pr (clr ts E) σe) all vs->(∀ j,j ∉ ts->σe[j]?=σ[j]?)->Same H2 He->RR (.ok .next) s1)
  (s₀:Shared) (n:Nat) (i:Nat) (σi:St) (Hi:Hp) (vs:List V) (ys rest:List D) (hn:n=ds.length - i) (hi:i<=ds.length) (Ii:Inv (cxc X scope s3 H3 fp C) [] σi Hi s₀) (sti:tn i s₀.heap) (fri:∀ b ∈ fp,Hi b=none) (hL:Hi L=some (.lst vs))
  (rps:Rps X.K Hi (Ow (G.in E σ H2 L vs).pr (clr ts E) σi) ys vs) (ri:Rel X.K (G.in E σ H2 L vs) (clr ts E) σi Hi) (hσ:∀ j,j ∉ ts->σi[j]?=σ[j]?) (sm:Same H2 Hi) (hle:ys.length<=i) (hc:compL set mt me (clr ts E) (ds.drop i)=.ok rest) (hall:all=ys++rest) :
  codeAny (model X.prog X.w) X.A (.compLoop (.ListComp elt [⟨tg,iter,ifs,0⟩] scope pos) 0 (.ref it) (.ref L) (cxc X scope s3 H3 fp C).env) RR s₀:=by
 refine compLoop_go (fun n s'=>∃ (i:Nat) (σi:St) (Hi:Hp) (vs:List V) (ys rest:List D),CompI X G scope ts set mt me E σ H2 H3 s3 L C fp tn ds all n s' i σi Hi vs ys rest) ?_ n ⟨i,σi,Hi,vs,ys,rest,hn,hi,Ii,sti,fri,hL,rps,ri,hσ,sm,hle,hc,hall⟩
 clear hn hi Ii sti fri hL rps ri hσ sm hle hc hall
 rintro n s' ⟨i,σi,Hi,vs,ys,rest,rfl,hi,Ii,sti,fri,hL,rps,ri,hσ,sm,hle,hc,hall⟩
 obtain ⟨stop,go⟩:=itB vs (clr ts E) σi Hi ri
 have okX:=Ii.ok
 have fpX:∀ {H':Hp},(∀ b ∈ fp,H' b=none)->∀ b ∈ fp,FpOk (cxc X scope s3 H3 fp C) [] H' b:=fun hn b hb =>
  ⟨hn b hb,(okX.exf b hb).1,okX.exfs b hb,.inl hb,fun x c h=>(okX.exf b hb).2 x c h,fun p hp=>absurd hp (by simp [cxc])⟩
 by_cases hlt:i < ds.length
 ·obtain ⟨go1,yl⟩:=go i ds[i] (by simp [hlt])
  rw [List.drop_eq_getElem_cons hlt] at hc
  unfold compL at hc
  refine wpAny_mono (T.item (cxc X scope s3 H3 fp C) rfl rfl rfl calm i [] s' σi Hi (fun _ _=>False) Ii (fpX fri) sti go1) (?_) fun _ _ z=>z
  rintro r s1 ⟨u,hr,h1⟩
  subst hr
  refine wpAny_mono h1 (?_) fun _ _ z=>z
  rintro _ s2 ⟨x,Hy,Iy,rx,y1,sty,fry⟩
  obtain ⟨sy,px⟩:=yl x Hy y1
  cases hse:set ds[i] (clr ts E) with
  | none=>rw [hse] at hc; cases hc
  | some E1 =>
  rw [hse] at hc
  dsimp only at hc
  have Iy':=Iy.pinned (fpX fry) (T.obj _ _ sty)
  obtain ⟨g,hg,hset⟩:=O.hg s3 H3 fp C
  have ry:=ri.same sy
  -- the target
  refine wpAny_mono (hg _ s2 σi Hy x u _ Iy' rx (hset (G.in E σ H2 L vs) (clr ts E) E1 σi Hy ds[i] x (fun σ' H'=>H'=Hy/\(∀ j,j ∉ ts->σ'[j]?=σi[j]?)/\Rel X.K (G.in E σ H2 L vs) E1 σ' Hy) ry px hse fun σ' h1 h2=>⟨rfl,h1,h2⟩)) (?_) fun _ _ z=>z
  rintro _ s4 ⟨σ4,H4,I4,e4,hσ4,r4⟩
  have e4':=e4.symm
  subst e4'
  have hσ4':∀ j,j ∉ ts->σ4[j]?=σ[j]?:=fun j hj=>(hσ4 j hj).trans (hσ j hj)
  have eclr:clr ts E1=clr ts E:=by
   have:=O.hset _ _ _ hse
   rw [this]
   apply List.ext_getElem?
   intro j
   rw [clr_get,clr_get,clr_len]
   by_cases hj:j ∈ ts
   ·simp [hj]
   ·simp [hj]
  -- the iterator behind a state of the block
  have again:∀ {s9:Shared} {σ9:St} {H9:Hp},Inv (cxc X scope s3 H3 fp C) ([]++pinsAt fp s2.heap) σ9 H9 s9->Inv (cxc X scope s3 H3 fp C) [] σ9 H9 s9/\tn (i + 1) s9.heap/\∀ b ∈ fp,H9 b=none:=fun {s9 σ9 H9} I9=>by
   refine ⟨I9.unpinned,T.keep _ _ _ sty fun b hb o e=>(I9.pin (b,o) (List.mem_append_right _ (List.mem_append_right _ (mem_pinsAt hb e)))).1,fun b hb=>?_⟩
   obtain ⟨o,e,d⟩:=T.obj _ _ sty b hb
   exact (I9.pin (b,o) (List.mem_append_right _ (List.mem_append_right _ (mem_pinsAt hb e)))).2.1
  have smy:Same H2 Hy:=sm.trans sy
  have hLy:Hy L=some (.lst vs):=sy _ _ hL
  -- the tests
  cases hmt:mt E1 with
  | er c=>rw [hmt] at hc; cases hc
  | no=>rw [hmt] at hc; cases hc
  | ok k =>
  rw [hmt] at hc
  simp only [R.ok_bind] at hc
  refine wpAny_mono (O.hc s3 H3 fp C (G.in E σ H2 L vs) rfl _ s4 σ4 Hy (fun b H'=>b=k/\Same Hy H') I4 ⟨E1,r4,by rw [hmt]; exact fun H' s=>⟨rfl,s⟩⟩) (fun ok s5 ⟨H5,I5,e5,s5'⟩=>?_) fun _ _ z=>z
  subst e5
  have r5:=r4.same s5'
  cases ok with
  | false =>
   rw [if_neg Bool.false_ne_true] at hc ⊢
   obtain ⟨J5,t5,n5⟩:=again I5
   refine ⟨ds.length - (i + 1),by omega,i + 1,σ4,H5,vs,ys,rest,rfl,hlt,J5,t5,n5,s5' _ _ hLy,?_,?_,hσ4',smy.trans s5',by omega,hc,hall⟩
   ·refine rps.mono (sy.trans s5') fun b z=>?_
    rcases z with z | ⟨j,d,z1,z2⟩
    ·exact .inl z
    ·obtain ⟨hj,z3⟩:=clr_some (by intro q; cases q) z1
     exact .inr ⟨j,d,z1,by rw [<-hσ4 j hj]; exact z2⟩
   ·rw [<-eclr]; exact r5.clr
  | true =>
   rw [if_pos rfl] at hc ⊢
   cases hme:me E1 with
   | er c=>rw [hme] at hc; cases hc
   | no=>rw [hme] at hc; cases hc
   | ok y =>
   rw [hme] at hc
   simp only [R.ok_bind] at hc
   cases hrest:compL set mt me (clr ts E) (ds.drop (i + 1)) with
   | er c=>rw [hrest] at hc; cases hc
   | no=>rw [hrest] at hc; cases hc
   | ok zs =>
   rw [hrest] at hc
   simp only [R.ok_bind] at hc
   cases hc
   refine wpAny_mono (O.he s3 H3 fp C (G.in E σ H2 L vs) rfl _ s5 σ4 H5 (fun v H'=>Same H5 H'/\Rp X.K H' (Ow (G.in E σ H2 L vs).pr E1 σ4) y v) I5 ⟨E1,r5,by rw [hme]; exact fun v H' s p=>⟨s,p⟩⟩) (fun z s6 ⟨v6,H6,I6,rv6,s6',p6⟩=>?_) fun _ _ z=>z
   have r6:=r5.same s6'
   have hL6:H6 L=some (.lst vs):=s6' _ _ (s5' _ _ hLy)
   have lv:vs.length < sizeLine:=by rw [rps.length,sizeLine_eq]; omega
   refine wpAny_mono (mt_append (X:=cxc X scope s3 H3 fp C) _ s6 σ4 H6 (.ref L) [v6] (.ref L) [z] (fun _ H'=>H'=upd H6 L (.lst (vs++[v6]))) I6 rfl (.cons rv6 .nil) ⟨L,vs,v6,rfl,rfl,hL6,lv,rfl⟩) (?_) fun _ _ z=>z
   rintro _ s7 ⟨_,H7,I7,_,e7⟩
   subst e7
   obtain ⟨J7,t7,n7⟩:=again I7
   have hLo:Ow (G.in E σ H2 L vs).pr E1 σ4 L:=.inl (.inr rfl)
   have owsub:∀ b,Ow (G.in E σ H2 L (vs++[v6])).pr (clr ts E) σ4 b->Ow (G.in E σ H2 L vs).pr E1 σ4 b:=fun b z=>by
    rw [<-eclr] at z
    rcases z with z | ⟨j,d,z1,z2⟩
    ·exact .inl z
    ·exact .inr ⟨j,d,(clr_some (by intro q; cases q) z1).2,z2⟩
   refine ⟨ds.length - (i + 1),by omega,i + 1,σ4,_,vs++[v6],ys++[y],zs,rfl,hlt,J7,t7,n7,upd_same,?_,?_,hσ4',?_,by simp; omega,hrest,by simp [hall]⟩
   ·refine Rps.append ?_ (Rps.cons ((p6.write hLo).mono (Same.refl _) owsub) Rps.nil)
    have q1:Rps X.K H6 (Ow (G.in E σ H2 L vs).pr (clr ts E) σ4) ys vs:=rps.mono (sy.trans (s5'.trans s6')) fun b z=>by
     rcases z with z | ⟨j,d,z1,z2⟩
     ·exact .inl z
     ·obtain ⟨hj,z3⟩:=clr_some (by intro q; cases q) z1
      exact .inr ⟨j,d,z1,by rw [<-hσ4 j hj]; exact z2⟩
    exact q1.write (.inl (.inr rfl))
   ·have:=r6.clr (ts:=ts)
    rw [eclr] at this
    exact this.bump
   ·intro b o hb
    have hb':b ≠ L:=fun q=>by subst q; rw [nL] at hb; cases hb
    rw [upd_ne hb']
    exact s6' _ _ (s5' _ _ (smy _ _ hb))
 ·have e:i=ds.length:=by omega
  subst e
  rw [List.drop_length] at hc
  unfold compL at hc
  cases hc
  rw [List.append_nil] at hall
  subst hall
  refine wpAny_mono (T.done (cxc X scope s3 H3 fp C) rfl rfl rfl calm ds.length [] s' σi Hi (fun _ _=>False) Ii (fpX fri) sti stop) (?_) fun _ _ z=>z
  rintro r s1 ⟨hr,I1⟩
  subst hr
  exact fin σi Hi vs s1 I1 hL rps hσ sm
theorem comp_run {pins:List (Addr × Obj)} {σ:St} {H2:Hp} {s2:Shared} {E:Ev} {ds all:List D} {it:Addr} {fp:List Addr} {tn:Nat->Heap->Prop} {J:It} {Rr:Value->Addr->Result->Shared->Prop} (calm:X.calm=true) (hx:∀ c,¬ G.xc c) (O:CompOk X G.xc elt tg ifs scope ts set mt me)
  (I:Inv X pins σ H2 s2) (T:Turn X.prog X.w X.K tg J fp it tn) (st:tn 0 s2.heap) (f:∀ b ∈ fp,FpOk X pins H2 b) (r:Rel X.K G E σ H2) (itok:ItOk X.K (G.lock E σ H2) J ds) (hlen:ds.length<=1000000) (no:noOw ts E=true) (hall:compL set mt me (clr ts E) ds=.ok all)
  (fin:∀ (L C:Addr) (He:Hp) (s':Shared) (m:Str->Option Value),H2 L=none->C ≠ X.env.locals->s'.heap.Ns C m->He C=none->(∀ x c,X.env.cells.lookup x=some c->c ≠ C)->C ∉ X.fs->X.s₀.heap.objs.size<=C->(∀ p ∈ X.pn++pins,p.1 ≠ C)->(∀ h',(∀ b o,b ≠ C->s'.heap.get? b=some o->h'.get? b=some o)->Inv X pins σ He { s' with heap:=h' })->Same H2 He->Own X.K He (fun b=>Ow G.pr E σ b\/b=L) (.lst all) L->Rr (.ref L) C (.ok .next) s') :
  wpAny (model X.prog X.w) X.A (newList []) (fun acc s₃=>wpAny (model X.prog X.w) X.A (newFunctionEnv scope X.env.globals (clOf scope.names X.env []) [] X.env.qual none .none (some X.env)) (fun cenv s₄ =>
   codeAny (model X.prog X.w) X.A (.compStart (.ListComp elt [⟨tg,iter,ifs,0⟩] scope pos) 0 (.ref it) acc { cenv with scope:=relabel scope X.env }) (Rr acc cenv.locals) s₄) X.xe s₃) X.xe s2:=by
 refine wpAny_newObj_type (wpAny_newFunctionEnv O.S.nocell (by intro y hy; simp at hy) (fun h₁ hns₁ hsb₁=>?_) O.S.kind)
 dsimp only at hns₁ hsb₁ ⊢
 generalize hp3:s2.heap.push { cls:=.type "list",data:=.seq #[] }=h3 at hns₁ hsb₁ ⊢
 have hC:h3.objs.size=s2.heap.objs.size + 1:=by rw [<-hp3,Heap.size_push]
 have k23:∀ b o,s2.heap.get? b=some o->h3.get? b=some o:=fun b o e=>by rw [<-hp3]; exact Heap.get?_push_of_some _ e
 have nL:H2 s2.heap.objs.size=none:=I.hok.fresh (Nat.le_refl _)
 have I3:Inv X pins σ (upd H2 s2.heap.objs.size (.lst [])) { s2 with heap:=h3,toks:=s2.toks }:=by
  rw [<-hp3]
  exact I.laid (a:=s2.heap.objs.size) (o:=.lst []) (t':=s2.toks) (fun _ _ q=>Heap.get?_push_of_some _ q) (Nat.le_refl _) ⟨Nat.zero_le _,[],0,.nil,Heap.get?_push_size _ rfl⟩
 have lt2:∀ b ∈ fp,b < s2.heap.objs.size:=fun b hb=>by obtain ⟨o,e,_⟩:=T.obj 0 _ st b hb; exact Heap.lt_size e
 have lt3:∀ b ∈ fp,b < h3.objs.size:=fun b hb=>by rw [hC]; exact Nat.lt_succ_of_lt (lt2 b hb)
 have f3:∀ b ∈ fp,FpOk X pins (upd H2 s2.heap.objs.size (.lst [])) b:=fun b hb=>⟨by rw [upd_ne (Nat.ne_of_lt (lt2 b hb))]; exact (f b hb).1,(f b hb).2⟩
 have k34:∀ b o,h3.get? b=some o->h₁.get? b=some o:=fun b o e=>hsb₁.extBut b o (Nat.ne_of_lt (Heap.lt_size e)) (Heap.get?_push_of_some _ e)
 have IB:=inv_block O.S I3 f3 (fun b hb=>lt3 b hb) O.loc (h':=h₁) (by simpa using hns₁) k34 (tk:=s2.toks + ([]:List (Str × Value)).length)
 have st4:tn 0 h₁:=T.keep _ _ _ st fun b hb o e=>k34 b o (k23 b o e)
 have rB:=r.block (ts:=ts) nL
 have itB:∀ (vs:List V) (E':Ev) (σ':St) (H':Hp),Rel X.K (G.in E σ H2 s2.heap.objs.size vs) E' σ' H'->_:=fun vs E' σ' H' r'=>itok _ E' σ' H' (in_le nL) r'
 have loop:=comp_loop (X:=X) (pos:=pos) (iter:=iter) (RR:=Rr (.ref s2.heap.objs.size) h3.objs.size) (s3:={ s2 with heap:=h3,toks:=s2.toks }) (H3:=upd H2 s2.heap.objs.size (.lst [])) (C:=h3.objs.size) calm hx O T itB hlen nL (fun σe He vs s1 Ie hL rps hσ sm=>by
   obtain ⟨m,hns,_⟩:=Ie.loc
   have hns:s1.heap.Ns h3.objs.size m:=hns
   have hCn:He h3.objs.size=none:=Ie.free
   refine fin s2.heap.objs.size h3.objs.size He s1 m nL (Nat.ne_of_gt I3.lt) hns hCn (fun x c e z=>?_) (I3.nofs (Nat.le_refl _)) I3.sz (fun p hp z=>?_) (fun h' k=>?_) sm ⟨vs,hL,rps.mono (Same.refl _) fun b z=>?_⟩
   ·obtain ⟨v,q⟩:=I3.cell x c e
    have:=q.lt
    rw [z] at this
    exact absurd this (Nat.lt_irrefl _)
   ·have:=Heap.lt_size (I3.pin p hp).1
    rw [z] at this
    exact absurd this (Nat.lt_irrefl _)
   ·have u:Un (frs X.stack) fp (upd H2 s2.heap.objs.size (.lst [])) He h3 h':=Un.post (C:=h3.objs.size) Ie.base k fun b o e=>Nat.ne_of_lt (Heap.lt_size e)
    refine I3.call' (s':={ s1 with heap:=h' }) Ie.os u (HOk.post Ie.hok hCn k) Ie.bare fun b hb=>?_
    obtain ⟨_,q1,q2,q3,q4,q5⟩:=f3 b hb
    exact ⟨q3,q1,q4,q5⟩
   ·rcases z with z | z
    ·rcases ow_clr' (pr:=G.pr) no hσ z with z | z
     ·exact .inl (.inl z)
     ·exact .inr z
    ·exact .inl (.inr z))
  { s2 with heap:=h₁,toks:=s2.toks + ([]:List (Str × Value)).length } ds.length 0 (clrS ts σ) _ [] [] all (by simp) (Nat.zero_le _) IB st4 (fun b hb=>(f3 b hb).1) upd_same Rps.nil rB (fun j hj=>by rw [clrS_get,if_neg hj]) (same_upd nL) (Nat.le_refl _) (by simpa using hall) rfl
 exact codeAny_compStart_list loop (T.self _ 0 _ _ _ st4 loop)
theorem sn_comp (gd:Gd X) (hx:∀ c,¬ G.xc c) (hi:SI X G tg iter mi) (O:CompOk X G.xc elt tg ifs scope ts set mt me) (hs:∀ x,foldedSetIterable iter X.env x=pure x:=by intro _; rfl):SN X G (.ListComp elt [⟨tg,iter,ifs,0⟩] scope pos) (eComp ts set mi mt me):=by
 rintro pins s σ H Q I ⟨E,hr,f⟩
 unfold eComp at f
 split at f
 ·rename_i no
  rw [eval_ListComp]
  have hclos:closureFor scope X.env=pure (clOf scope.names X.env []):=closure_eq fun p hp hf=>I.ok.has p.1 (O.S.free p hp hf)
  refine wpAny_comprehension_free (use:=none) rfl hs hclos O.S.kind (fun y hy hl=>by rw [<-hl]; exact O.S.names y hy) ?_
  refine thn (hi pins s σ H (fun J H1=>∃ ds all,Same H H1/\ItOk X.K (G.lock E σ H1) J ds/\ds.length<=1000000/\compL set mt me (clr ts E) ds=.ok all/\∀ a H',Same H H'->H a=none->Own X.K H' (fun b=>Ow G.pr E σ b\/b=a) (.lst all) a->Q (.ref a) H') I ⟨E,hr,(Fin.bind f).mono fun ds p J H1 s1 it=>?_⟩) fun v s1 h1=>thn h1 fun itv s2 zz=>?_
  ·split at p
   ·rename_i hl
    cases hc:compL set mt me (clr ts E) ds with
    | no=>rw [hc] at p; exact p.elim
    | er c=>rw [hc] at p; exact absurd p (hx c)
    | ok all=>rw [hc] at p; exact ⟨ds,all,s1,it,hl,hc,p⟩
   ·exact p.elim
  ·obtain ⟨it,fp,tn,J,H2,e,I2,T,st,fo,ds,all,s12,ito,hl,hc,q⟩:=zz
   subst e
   refine comp_run (Rr:=fun acc C=>compPost (model X.prog X.w) X.A X.xe none (EP X pins σ Q) acc C) gd.calm hx O I2 T st fo (hr.same s12) ito hl no hc fun L C He s' m nL _ ns nC _ _ _ _ inv sm own=>?_
   refine ⟨m,ns,fun h' sb=>⟨.ref L,He,inv h' fun b o hb e=>sb.extBut b o hb e,rfl,q L He (s12.trans sm) ?_ own⟩⟩
   cases z:H L with
   | none=>rfl
   | some o=>rw [s12 _ _ z] at nL; cases nL
 ·exact f.elim
theorem store_comp {y:Str} {py spos:Pos} {i:Nat} {Qn:D->Addr->St->Hp->Prop} (gd:Gd X) (hx:∀ c,¬ G.xc c) (hi:SI X G tg iter mi) (O:CompOk X G.xc elt tg ifs scope ts set mt me) (hN:X.N[i]?=some y) (hy:Loc X.env.scope y) (hf:X.fn y=true\/X.env.scope.names.lookup y=some .local)
  (hsw:swapsWith (.ListComp elt [⟨tg,iter,ifs,0⟩] scope pos) (some (.Name y py)) spos.line X.env=pure true) (hs:∀ x,foldedSetIterable iter X.env x=pure x) {pins:List (Addr × Obj)} {s:Shared} {σ:St} {H:Hp} {E:Ev} {Dn:Ends} (I:Inv X pins σ H s) (hr:Rel X.K G E σ H)
  (f:Fin (eComp ts set mi mt me E) (fun d=>∀ a H',isDic d=false->Same H H'->H a=none->Own X.K H' (fun b=>Ow G.pr E σ b\/b=a) d a->Dn.nx (σ.set i (some (.ref a))) H') G.xc) :
  wpAny (model X.prog X.w) X.A (exec (.Assign [.Name y py] (.ListComp elt [⟨tg,iter,ifs,0⟩] scope pos) spos) X.env) (SP X pins Dn) X.xe s:=by
 unfold eComp at f
 split at f
 ·rename_i no
  rw [exec_Assign_Name_used _ _ _ _ hsw]
  refine wpAny_bind (wpAny_standAt (wpAny_bind ?_))
  have hclos:closureFor scope X.env=pure (clOf scope.names X.env []):=closure_eq fun p hp hf=>I.ok.has p.1 (O.S.free p hp hf)
  show wpAny _ X.A (do let _ ← comprehension (.ListComp elt [⟨tg,iter,ifs,0⟩] scope pos) scope X.env _ (newList []) false (eval iter X.env) (some (assign (.Name y py) X.env))) _ _ s
  refine wpAny_bind (wpAny_mono (wpAny_comprehension_free (use:=some (assign (.Name y py) X.env)) (Q:=fun _ s'=>SP X pins Dn .next s') rfl hs hclos O.S.kind (fun y hy hl=>by rw [<-hl]; exact O.S.names y hy)
   ?_) (fun _ s' hq=>wpAny_pure (wpAny_pure hq)) fun _ _ e=>e)
  refine thn (hi pins s σ H (fun J H1=>∃ ds all,Same H H1/\ItOk X.K (G.lock E σ H1) J ds/\ds.length<=1000000/\compL set mt me (clr ts E) ds=.ok all/\∀ a H',Same H H'->H a=none->Own X.K H' (fun b=>Ow G.pr E σ b\/b=a) (.lst all) a->Dn.nx (σ.set i (some (.ref a))) H') I ⟨E,hr,(Fin.bind f).mono fun ds p J H1 s1 it=>?_⟩) fun v s1 h1=>thn h1 fun itv s2 zz=>?_
  ·split at p
   ·rename_i hl
    cases hc:compL set mt me (clr ts E) ds with
    | no=>rw [hc] at p; exact p.elim
    | er c=>rw [hc] at p; exact absurd p (hx c)
    | ok all=>rw [hc] at p; exact ⟨ds,all,s1,it,hl,hc,fun a H'=>p a H' rfl⟩
   ·exact p.elim
  ·obtain ⟨it,fp,tn,J,H2,e,I2,T,st,fo,ds,all,s12,ito,hl,hc,q⟩:=zz
   subst e
   refine comp_run (Rr:=fun acc C=>compPost (model X.prog X.w) X.A X.xe (some (assign (.Name y py) X.env)) (fun _ s'=>SP X pins Dn .next s') acc C) gd.calm hx O I2 T st fo (hr.same s12) ito hl no hc fun L C He s' m nL hCL ns nC hcell hfs habove hpn inv sm own=>?_
   obtain ⟨oC,es,ep,hoC,hdC,hkC,hmC⟩:=id ns
   have I':Inv X pins σ He s':=inv s'.heap fun b o _ e=>e
   have Ip:Inv X (pins++[(C,oC)]) σ He s':=I'.pins_of fun p hp=>by
    rcases List.mem_append.mp hp with hp | hp
    ·exact I'.pin p (List.mem_append_right _ hp)
    ·have:p=(C,oC):=by simpa using hp
     subst this
     exact ⟨hoC,nC,hCL,hfs,fun v z=>by rw [hdC] at z; cases z⟩
   refine thn (pg_name (pos:=py) gd.nd hN hy hf (pins++[(C,oC)]) s' σ He (.ref L) (.ref L) (fun σ' H'=>σ'=σ.set i (some (.ref L))/\H'=He) Ip rfl ⟨rfl,rfl⟩) ?_
   rintro _ s'' ⟨σ',H',J',e1,e2⟩
   subst e1 e2
   have keepC:=(J'.pin (C,oC) (List.mem_append_right _ (List.mem_append_right _ (by simp)))).1
   refine ⟨m,⟨oC,es,ep,keepC,hdC,hkC,hmC⟩,fun h' sb=>⟨_,_,(J'.unpinned).turned (t':=s''.toks) (it:=C) (fun b o hb e=>sb.extBut b o hb e) nC hCL (.inr habove) hcell hpn,q L _ (s12.trans sm) ?_ own⟩⟩
   cases z:H L with
   | none=>rfl
   | some o=>rw [s12 _ _ z] at nL; cases nL
 ·exact f.elim
theorem ss_ownC (i:Nat) {y:Str} {py spos:Pos} (gd:Gd X) (hx:∀ c,¬ G.xc c) (hi:SI X G tg iter mi) (O:CompOk X G.xc elt tg ifs scope ts set mt me) (hN:X.N[i]?=some y:=by rfl) (hy:Loc X.env.scope y:=by first | exact Or.inl rfl | exact Or.inr rfl) (hf:X.fn y=true\/X.env.scope.names.lookup y=some .local:=by first | exact .inl rfl | exact .inr rfl | assumption)
  (hsw:swapsWith (.ListComp elt [⟨tg,iter,ifs,0⟩] scope pos) (some (.Name y py)) spos.line X.env=pure true:=by rfl) (hs:∀ x,foldedSetIterable iter X.env x=pure x:=by intro _; rfl) :
  SS X G (.Assign [.Name y py] (.ListComp elt [⟨tg,iter,ifs,0⟩] scope pos) spos) (xOwn i (eComp ts set mi mt me)):=fun pins s σ H Dn I ⟨E,hr,f⟩ =>
 store_comp (Qn:=fun _ _ _ _=>True) gd hx hi O hN hy hf hsw hs I hr ((Fin.bind f).mono fun d p a H' _ s n own=>p _ _ (hr.setO s n own))
end
end M

set_option Elab.async false
set_option linter.all false
set_option maxRecDepth 100000
namespace M
open PySem PySem.Spec PyProof.Rows L2

theorem turnLaid {X:Cx} {pins:List (Addr × Obj)} {σ:St} {H:Hp} {s:Shared} {h':Heap} {t':Nat} {ch:List Addr} {T:Addr} {o:HO} (I:Inv X pins σ H s) (hch:∀ b ∈ ch,FpOk X pins H b)
  (k:∀ b o,b ∉ ch->s.heap.get? b=some o->h'.get? b=some o) (hT:s.heap.objs.size<=T) (new:ObjOk X.prog X.w (upd H T o) h' T o):Inv X pins σ (upd H T o) { s with heap:=h',toks:=t' }:=by
 have hnT:H T=none:=I.hok.fresh hT
 have nT:∀ b ob,s.heap.get? b=some ob->b ≠ T:=fun b ob e=>Nat.ne_of_lt (Nat.lt_of_lt_of_le (Heap.lt_size e) hT)
 have nit:∀ b u,H b=some u->b ∉ ch:=fun b u e z=>by rw [(hch b z).1] at e; cases e
 refine I.step (g':=s.gens) (d':=s.drawn) (ch:=ch) (fun b hb=>?_) (fun b o _ _ hc e _=>k b o hc e) (fun b o _ _ hc e _=>⟨o.slots,k b o hc e⟩) (fun b ob _ e n=>by rw [upd_ne (nT b ob e)]; exact n)
  (fun b o hc e=>by
   exact ⟨o,k b o hc e⟩) (fun b xs e=>by rw [upd_ne (ne_of_none e hnT)]; exact e) (fun b u xs e=>by rw [upd_ne (ne_of_none e hnT)]; exact e) (fun b ps e=>⟨#[],by rw [upd_ne (ne_of_none e hnT),e]; simp⟩) (fun m hm=>?_) (fun b u e=>?_) I.bare
 ·obtain ⟨_,q1,q2,q3,q4,q5⟩:=hch b hb
  exact ⟨q3,q1,q4,q5⟩
 ·obtain ⟨ob,es,ep,ho,r⟩:=hm
  exact ⟨ob,es,ep,k _ ob (fun z=>(hch _ z).2.1 rfl) ho,r⟩
 ·by_cases hb:b=T
  ·subst hb; rw [upd_same] at e; cases e; exact new
  ·rw [upd_ne hb] at e
   refine (I.hok b u e).stay (fun c v hc q=>k c v ?_ q) (fun c q=>by rw [upd_ne (ne_of_none q hnT)]; exact q) fun c xs q=>by rw [upd_ne (ne_of_none q hnT)]; exact q
   rcases hc with z | z
   ·rw [z]; exact nit b u e
   ·exact nit c _ z
noncomputable def Itz (K:PySem.W.Frag) (a b:Addr):It :=
 ⟨fun i H=>∃ xs ys x y,SqL K H a xs/\SqL K H b ys/\xs[i]?=some x/\ys[i]?=some y,
  fun i H v H'=>∃ T x y,v=.ref T/\H T=none/\H'=upd H T (.tup [x,y])/\(∀ xs,SqL K H a xs->xs[i]?=some x)/\∀ ys,SqL K H b ys->ys[i]?=some y,
  fun i H=>∃ xs ys,SqL K H a xs/\SqL K H b ys/\i=min xs.length ys.length⟩
theorem turn_zip {P:Program} {w:World} {K:PySem.W.Frag} {elts:List Expr} {k:Nat} {pos:Pos} (a b z TI TO i1 i2:Addr) (D:ZipApart z TI TO i1 i2 a b) :
  Turn P w K (.Tuple elts k pos) (Itz K a b) [z,TI,TO,i1,i2] z (fun i h=>IsZip h z TI TO .none/\IsPair h TI (.ref i1) (.ref i2)/\(∃ u v,IsPair h TO u v)/\h.IsListIter i1 a i/\h.IsListIter i2 b i) where
 mem:=by simp
 obj:=fun i h st c hc=>by
  obtain ⟨h1,h2,⟨u,v,h3⟩,⟨o4,e4,c4,d4⟩,⟨o5,e5,c5,d5⟩⟩:=st
  simp only [List.mem_cons,List.not_mem_nil,or_false] at hc
  rcases hc with rfl | rfl | rfl | rfl | rfl
  ·exact ⟨_,h1,fun v z=>nomatch z⟩
  ·exact ⟨_,h2,fun v z=>nomatch z⟩
  ·exact ⟨_,h3,fun v z=>nomatch z⟩
  ·exact ⟨_,e4,fun v z=>by rw [d4] at z; cases z⟩
  ·exact ⟨_,e5,fun v z=>by rw [d5] at z; cases z⟩
 keep:=fun i h h' st k=>by
  obtain ⟨h1,h2,⟨u,v,h3⟩,h4,h5⟩:=st
  exact ⟨k z (by simp) _ h1,k TI (by simp) _ h2,⟨u,v,k TO (by simp) _ h3⟩,h4.at fun o e=>k i1 (by simp) o e,h5.at fun o e=>k i2 (by simp) o e⟩
 item:=by
  intro X hP hw hK hc i pins s σ H E I hf st hg
  subst hP hw hK
  obtain ⟨xs,ys,x,y,hq1,hq2,hx,hy⟩:=hg
  obtain ⟨its1,rv1,p1,hz1⟩:=I.list hq1
  obtain ⟨its2,rv2,p2,hz2⟩:=I.list hq2
  obtain ⟨u1,hu1,ru1⟩:=rv1.get hx
  obtain ⟨u2,hu2,ru2⟩:=rv2.get hy
  obtain ⟨h1,h2,h3,h4,h5⟩:=st
  have W:=WalksT.zip2 (prog:=X.prog) (w:=X.w) (A:=X.A) (I.ok.hd hc) z TI TO i1 i2 a b D its1.toArray its2.toArray
  have l1:i < its1.length:=(List.getElem?_eq_some_iff.mp hu1).1
  have l2:i < its2.length:=(List.getElem?_eq_some_iff.mp hu2).1
  refine W.item i s _ E (by simp; omega) ⟨h1,h2,h3,h4,h5,p1.isList,p2.isList⟩ fun T vals h' tk hv hT hTu hM hk=>?_
  obtain ⟨v1,v2,e1,e2,rfl⟩:=hv
  have e1':v1=u1:=by
   have:its1[i]?=some v1:=by simpa using e1
   rw [hu1] at this; exact (Option.some.inj this).symm
  have e2':v2=u2:=by
   have:its2[i]?=some v2:=by simpa using e2
   rw [hu2] at this; exact (Option.some.inj this).symm
  subst e1' e2'
  refine ⟨.ref T,rfl,?_⟩
  have hap:=W.apart i T h' hM
  refine W.go elts k pos i T { s with heap:=h',toks:=tk } _ E hM fun h'' hst'' hk''=>?_
  have nT:H T=none:=I.hok.fresh hT
  obtain ⟨oT,eT,cT,nn,dT⟩:=hTu
  have eT':=hk'' T oT hap eT
  have sub:∀ c,c ∉ [z,TI,TO,i1,i2]->c ∉ [z,TO,i1,i2]:=fun c hc hc'=>hc (by
   simp only [List.mem_cons,List.not_mem_nil,or_false] at hc' ⊢
   rcases hc' with h | h | h | h
   ·exact .inl h
   ·exact .inr (.inr (.inl h))
   ·exact .inr (.inr (.inr (.inl h)))
   ·exact .inr (.inr (.inr (.inr h))))
  have I':Inv X pins σ (upd H T (.tup [x,y])) { s with heap:=h'',toks:=tk }:=turnLaid I hf (fun c o hc e=>hk'' c o (sub c hc) (hk c o (sub c hc) e)) hT
   ⟨by rw [sizeLine_eq]; simp,[v1,v2],.cons ru1 (.cons ru2 .nil),oT,eT',cT,nn,dT⟩
  obtain ⟨g1,g2,g3,g4,g5,_,_⟩:=hst''
  refine ⟨.ref T,_,I',rfl,⟨T,x,y,rfl,nT,rfl,fun zs hz=>by rw [I.list_inj hz hq1]; exact hx,fun zs hz=>by rw [I.list_inj hz hq2]; exact hy⟩,⟨g1,g2,g3,g4,g5⟩,fun c hc=>?_⟩
  have hlt:c < s.heap.objs.size:=by
   obtain ⟨u,v,h3⟩:=h3
   obtain ⟨o4,e4,_⟩:=h4
   obtain ⟨o5,e5,_⟩:=h5
   simp only [List.mem_cons,List.not_mem_nil,or_false] at hc
   rcases hc with rfl | rfl | rfl | rfl | rfl
   ·exact Heap.lt_size h1
   ·exact Heap.lt_size h2
   ·exact Heap.lt_size h3
   ·exact Heap.lt_size e4
   ·exact Heap.lt_size e5
  rw [upd_ne (Nat.ne_of_lt (Nat.lt_of_lt_of_le hlt hT))]
  exact (hf c hc).1
 done:=by
  intro X hP hw hK hc i pins s σ H E I hf st hg
  subst hP hw hK
  obtain ⟨xs,ys,hq1,hq2,hi⟩:=hg
  obtain ⟨its1,rv1,p1,hz1⟩:=I.list hq1
  obtain ⟨its2,rv2,p2,hz2⟩:=I.list hq2
  obtain ⟨h1,h2,h3,h4,h5⟩:=st
  have W:=WalksT.zip2 (prog:=X.prog) (w:=X.w) (A:=X.A) (I.ok.hd hc) z TI TO i1 i2 a b D its1.toArray its2.toArray
  have en:min its1.toArray.size its2.toArray.size=i:=by
   rw [hi,List.size_toArray,List.size_toArray,rv1.length,rv2.length]
  refine W.done s _ E (by rw [en]; exact ⟨h1,h2,h3,h4,h5,p1.isList,p2.isList⟩) fun h' tk hk=>⟨rfl,?_⟩
  have nit:∀ b u,H b=some u->b ∉ [z,TI,TO,i1,i2]:=fun b u e q=>by rw [(hf b q).1] at e; cases e
  have sub:∀ c,c ∉ [z,TI,TO,i1,i2]->c ∉ [z,TO,i1,i2]:=fun c hc hc'=>hc (by
   simp only [List.mem_cons,List.not_mem_nil,or_false] at hc' ⊢
   rcases hc' with h | h | h | h
   ·exact .inl h
   ·exact .inr (.inr (.inl h))
   ·exact .inr (.inr (.inr (.inl h)))
   ·exact .inr (.inr (.inr (.inr h))))
  have k:∀ b o,b ∉ [z,TI,TO,i1,i2]->s.heap.get? b=some o->h'.get? b=some o:=fun b o hb e=>hk b o (sub b hb) e
  refine I.step (g':=s.gens) (d':=s.drawn) (ch:=[z,TI,TO,i1,i2]) (fun b hb=>?_) (fun b o _ _ hc e _=>k b o hc e) (fun b o _ _ hc e _=>⟨o.slots,k b o hc e⟩) (fun b ob _ e n=>n)
   (fun b o hc e=>⟨o,k b o hc e⟩) (fun b xs e=>e) (fun b u xs e=>e) (fun b ps e=>⟨#[],by rw [e]; simp⟩) (fun m hm=>?_) (fun b u e=>?_) I.bare
  ·obtain ⟨_,q1,q2,q3,q4,q5⟩:=hf b hb
   exact ⟨q3,q1,q4,q5⟩
  ·obtain ⟨ob,es,ep,ho,r⟩:=hm
   exact ⟨ob,es,ep,k _ ob (fun z=>(hf _ z).2.1 rfl) ho,r⟩
  ·refine (I.hok b u e).stay (fun c v hc q=>k c v ?_ q) (fun c q=>q) fun c xs q=>q
   rcases hc with z | z
   ·rw [z]; exact nit b u e
   ·exact nit c _ z
 self:=fun _ _ _ _ _ st h=>wpAny_pyIter_zip st.1 h

section
variable {X:Cx} {G:Fc} {a b:Expr} {p pos tpos:Pos} {elts:List Expr} {tk:Nat}
noncomputable def iZip (K:PySem.W.Frag) (ta:TA):TI:=fun σ H Rr=>ta σ H fun vs H1=>∃ a b,vs=[.ref a,.ref b]/\(∃ xs,SqL K H1 a xs)/\(∃ ys,SqL K H1 b ys)/\Rr (Itz K a b) H1
theorem pi_zip {ta:TA} (hg:Gl X "zip") (hm:X.mg "zip"=none) (ha:PA X [a,b] ta) (hs:starEach [a,b] X.env=[(false,eval a X.env),(false,eval b X.env)]:=by rfl) (hs2:starEach [b] X.env=[(false,eval b X.env)]:=by rfl) :
  PI X (.Tuple elts tk tpos) (.Call (.Name "zip" p) [a,b] [] pos) (iZip X.K ta):=by
 intro pins s σ H Rr I h
 refine Call_ (ld_blt I hg hm boot_zip (PyProof.Rows.callWith_type1 (thn (ha pos pins s σ H _ I h) fun us s1 ⟨vs,H1,I1,r1,q1⟩=>?_) (by rw [hs,hs2]) (by rw [hs2]; rfl)))
 obtain ⟨l1,l2,e,⟨xs,hx⟩,⟨ys,hy⟩,q⟩:=q1
 subst e
 cases r1 with
 | cons r rr =>
  cases rr with
  | cons r' rr =>
   cases rr
   cases r
   cases r'
   obtain ⟨its1,rv1,p1,hz1⟩:=I1.list hx
   obtain ⟨its2,rv2,p2,hz2⟩:=I1.list hy
   have hlt1:l1 < s1.heap.objs.size:=by obtain ⟨o,e,_⟩:=p1.isList; exact Heap.lt_size e
   have hlt2:l2 < s1.heap.objs.size:=by obtain ⟨o,e,_⟩:=p2.isList; exact Heap.lt_size e
   refine call_zip_2 p1.isList p2.isList fun h' hz hTI hTO hi1 hi2 hsz hk=>?_
   refine wpAny_pyIter_zip hz ?_
   have D:ZipApart (s1.heap.objs.size + 4) (s1.heap.objs.size + 2) (s1.heap.objs.size + 3) s1.heap.objs.size (s1.heap.objs.size + 1) l1 l2:=PySem.W.ktu_apart _ _ _ hlt1 hlt2
   refine ⟨_,[s1.heap.objs.size + 4,s1.heap.objs.size + 2,s1.heap.objs.size + 3,s1.heap.objs.size,s1.heap.objs.size + 1],_,_,H1,rfl,I1.kept (t':=s1.toks) hk,turn_zip l1 l2 _ _ _ _ _ D,⟨hz,hTI,⟨_,_,hTO⟩,hi1,hi2⟩,fun c hc=>?_,q⟩
   have hge:s1.heap.objs.size<=c:=by
    simp only [List.mem_cons,List.not_mem_nil,or_false] at hc
    rcases hc with rfl | rfl | rfl | rfl | rfl
    ·exact Nat.le_add_right _ _
    ·exact Nat.le_add_right _ _
    ·exact Nat.le_add_right _ _
    ·exact Nat.le_refl _
    ·exact Nat.le_add_right _ _
   exact I1.fpOk hge (I1.hok.fresh hge)
noncomputable def iZ (ma mb:EV):Ev->R (List D):=fun E=>ma E >>= fun x=>mb E >>= fun y=>match x,y with
 | .lst xs,.lst ys=>.ok (List.zipWith (fun a b=>D.tup [a,b]) xs ys)
 | _,_=>.no
theorem si_zip {ma mb:EV} (hg:Gl X "zip") (hm:X.mg "zip"=none) (ha:SF X G a ma) (hb:SF X G b mb) (hs:starEach [a,b] X.env=[(false,eval a X.env),(false,eval b X.env)]:=by rfl) (hs2:starEach [b] X.env=[(false,eval b X.env)]:=by rfl) :
  SI X G (.Tuple elts tk tpos) (.Call (.Name "zip" p) [a,b] [] pos) (iZ ma mb) :=
 (pi_zip hg hm (pa_cons ha (pa_cons hb pa_nil hs2) (by rw [hs,hs2])) hs hs2).imp fun σ H Q z0=>z0.elim fun E z0=>z0.elim fun hr f=>⟨E,hr,(Fin.bind f).mono fun d p v H1 s1 z=>⟨E,hr.same s1,(Fin.bind p).mono fun e p w H2 s2 y=>by
  cases d with
  | lst xs =>
   cases e with
   | lst ys =>
    have z:=z.mono s2 fun _ q=>q
    unfold Rp at z y
    obtain ⟨l1,vs,rfl,no1,h1,r1⟩:=z
    obtain ⟨l2,ws,rfl,no2,h2,r2⟩:=y
    refine ⟨l1,l2,rfl,⟨vs,SqL.of h1⟩,⟨ws,SqL.of h2⟩,p _ H2 (s1.trans s2) fun G' E' σ' H' le r'=>?_⟩
    have h1':=(locked le r' _ _ no1 h1).1
    have h2':=(locked le r' _ _ no2 h2).1
    refine ⟨⟨vs,ws,SqL.of h1',SqL.of h2',by rw [List.length_zipWith,r1.length,r2.length]⟩,fun i d hd=>?_⟩
    have hd':∃ dx dy,xs[i]?=some dx/\ys[i]?=some dy/\d=.tup [dx,dy]:=by
     rw [List.getElem?_zipWith] at hd
     cases e1:xs[i]? with
     | none=>rw [e1] at hd; simp at hd
     | some dx =>
      cases e2:ys[i]? with
      | none=>rw [e1,e2] at hd; simp at hd
      | some dy=>rw [e1,e2] at hd; simp at hd; exact ⟨dx,dy,rfl,rfl,hd.symm⟩
    obtain ⟨dx,dy,e1,e2,rfl⟩:=hd'
    obtain ⟨vx,hvx,px⟩:=r1.get e1
    obtain ⟨vy,hvy,py⟩:=r2.get e2
    refine ⟨⟨vs,ws,vx,vy,SqL.of h1',SqL.of h2',hvx,hvy⟩,?_⟩
    rintro x H'' ⟨T,ux,uy,ex,nT,eH,q1,q2⟩
    subst ex eH
    have a1:=q1 vs (SqL.of h1')
    have a2:=q2 ws (SqL.of h2')
    rw [hvx] at a1; cases a1
    rw [hvy] at a2; cases a2
    refine ⟨same_upd nT,?_⟩
    unfold Rp
    refine ⟨T,[vx,vy],rfl,r'.fresh nT,upd_same,Rps.cons ?_ (Rps.cons ?_ Rps.nil)⟩
    ·exact (px.move (locked le r')).mono (same_upd nT) fun _ q=>q
    ·exact (py.move (locked le r')).mono (same_upd nT) fun _ q=>q
   | _=>exact p.elim
  | _=>exact p.elim⟩⟩
end
end M

set_option Elab.async false
set_option linter.all false
set_option maxRecDepth 100000
namespace M
open PySem PySem.Spec PyProof.Rows L2

noncomputable def CallD (K:PySem.W.Frag) (r:List V->Hp->VK->Prop) (f:D->Option D):Prop :=
 ∀ (H:Hp) (O:Addr->Prop) (dx d:D) (v:V) (Q:VK),Sane H O->f dx=some d->Rt K H O dx v->(∀ u H',Same H H'->Rp K H' O d u->Q u H')->r [v] H Q
noncomputable def CallN (K:PySem.W.Frag) (r:List V->Hp->VK->Prop) (f:D->Option D):Prop :=
 ∀ (H:Hp) (O:Addr->Prop) (dx d:D) (v:V) (Q:VK),Sane H O->f dx=some d->Rt K H O dx v->(∀ a H',Same H H'->H a=none->Own K H' (fun b=>O b\/b=a) d a->Q (.ref a) H')->r [v] H Q
section
variable {X:Cx} {G:Fc} {r:List V->Hp->VK->Prop} {f:D->Option D} {x:Str} {p pos:Pos} {e:Expr} {m:EV}
theorem sf_callB {id:String} (hc:CallR X (.builtin id) r) (hf:CallD X.K r f) (hg:Gl X x) (hm:X.mg x=none) (hv:bootBuiltins x=some (.builtin id)) (he:SE X G e m) (hn:x ≠ "__name__":=by decide) (hdb:(x == ("__debug__":Str))=false:=by decide)
  (hs:starEach [e] X.env=(false,eval e X.env) :: starEach [] X.env:=by rfl) (hpl:(backTo pos (starEach [] X.env)).any (·.1)=false:=by rfl):SF X G (.Call (.Name x p) [e] [] pos) (e1 f m) :=
 (pe_callB hc hg hm hv (pa_cons he pa_nil hs) hn hdb hs hpl).imp fun σ H Q z0=>z0.elim fun E z0=>z0.elim fun hr h=>⟨E,hr,(Fin.bind h).mono fun dx fx v H1 s1 p1=>by
  obtain ⟨d,e,q⟩:=Fin.of fx
  exact hf H1 _ dx d v Q (hr.same s1).sane e p1 fun u H' s z=>q u H' (s1.trans s) z⟩
theorem sn_callB {id:String} (hc:CallR X (.builtin id) r) (hf:CallN X.K r f) (hg:Gl X x) (hm:X.mg x=none) (hv:bootBuiltins x=some (.builtin id)) (he:SE X G e m) (hn:x ≠ "__name__":=by decide) (hdb:(x == ("__debug__":Str))=false:=by decide)
  (hs:starEach [e] X.env=(false,eval e X.env) :: starEach [] X.env:=by rfl) (hpl:(backTo pos (starEach [] X.env)).any (·.1)=false:=by rfl):SN X G (.Call (.Name x p) [e] [] pos) (e1 f m) :=
 (pe_callB hc hg hm hv (pa_cons he pa_nil hs) hn hdb hs hpl).imp fun σ H Q z0=>z0.elim fun E z0=>z0.elim fun hr h=>⟨E,hr,(Fin.bind h).mono fun dx fx v H1 s1 p1=>by
  obtain ⟨d,e,q⟩:=Fin.of fx
  refine hf H1 _ dx d v Q (hr.same s1).sane e p1 fun a H' s n z=>q a H' (s1.trans s) ?_ z
  cases w:H a with
  | none=>rfl
  | some o=>rw [s1 _ _ w] at n; cases n⟩
theorem sn_callT {T:String} (hc:CallR X (.type T) r) (hf:CallN X.K r f) (hg:Gl X x) (hm:X.mg x=none) (hv:bootBuiltins x=some (.type T)) (he:SE X G e m) (hn:x ≠ "__name__":=by decide) (hdb:(x == ("__debug__":Str))=false:=by decide)
  (hs:starEach [e] X.env=(false,eval e X.env) :: starEach [] X.env:=by rfl) (hpl:(backTo pos (starEach [] X.env)).any (·.1)=false:=by rfl):SN X G (.Call (.Name x p) [e] [] pos) (e1 f m) :=
 (pe_callTy hc hg hm hv (pa_cons he pa_nil hs) hn hdb hs hpl).imp fun σ H Q z0=>z0.elim fun E z0=>z0.elim fun hr h=>⟨E,hr,(Fin.bind h).mono fun dx fx v H1 s1 p1=>by
  obtain ⟨d,e,q⟩:=Fin.of fx
  refine hf H1 _ dx d v Q (hr.same s1).sane e p1 fun a H' s n z=>q a H' (s1.trans s) ?_ z
  cases w:H a with
  | none=>rfl
  | some o=>rw [s1 _ _ w] at n; cases n⟩
end

theorem meets_len_H {prog:Program} {w:World} {K:Type} [DecidableEq K] (knd:HeapKind prog w K) (d:Addr) (hd:(d == sysModules)=false) :
  MeetsIn prog w (Builtin.«dict.__len__» ⟨[.ref d],[]⟩) (fun _ R s=>∃ kvs:List (K × Addr × Value),s.heap.DictOfH knd d kvs/\R (.ok (.ret (.int kvs.length s.toks))) { s with toks:=s.toks + 1 }) :=
 .of_wp fun A R s ⟨kvs,hm,h⟩=>by
  obtain ⟨o,es,ep,ho,hc,hdat,hk,hp⟩:=hm
  show wpAny _ _ (dictSize d >>= _) _ _ s
  unfold dictSize
  refine wpAny_bind (wpAny_bind (wpAny_dictEntries ho hdat (wpAny_pure ?_)))
  show wpAny _ _ (Builtin.Dict.pendingCount d >>= _) _ _ s
  refine wpAny_bind (wpAny_pendingCount_other hd ?_)
  refine wpAny_ret_mkInt ?_
  have:es.size=kvs.length:=by
   have:=congrArg List.length hk
   simpa using this
  rw [Nat.add_zero,this]; exact h
theorem call_len_H {prog:Program} {w:World} {A:Around} {E:Value->Shared->Prop} {s:Shared} {K:Type} [DecidableEq K] {knd:HeapKind prog w K} {d:Addr} {kvs:List (K × Addr × Value)} {Q:Value->Shared->Prop} (hd:(d == sysModules)=false) (hm:s.heap.DictOfH knd d kvs) (hfit:(kvs.length:Int) < 2 ^ 63)
  (h:Q (.int kvs.length (s.toks + 1)) { s with toks:=s.toks + 1 + 1 }):wpAny (model prog w) A (call (.builtin "len") [.ref d]) Q E s:=by
 refine Calls.call_function_entry kind_len plain_len entry_len (args_len1 _) ?_
 unfold Builtin.«len»
 refine wpAny_bind (m:=oneArg "len" _) (wpAny_pure ?_)
 refine wpAny_bind (m:=callSpecial? (.ref d) (Str.ofString "__len__")) (wpAny_callSpecial?_slot (name:=Str.ofString "__len__") hm.typeIs F.slot_dict_len
  (call_meetsIn F.slot_dict_len hm.typeIs F.entry_dict_len (F.args_dict_len_1 _) (meets_len_H knd d hd) ⟨kvs,hm,?_⟩))
 show wpAny _ _ _ _ _ { s with toks:=s.toks + 1 }
 refine wpAny_bind (wpAny_holding (wpAny_pure ?_))
 refine wpAny_bind (wpAny_letGo ?_)
 show wpAny _ _ (if ((kvs.length:Nat):Int) < 0 then _ else _) _ _ _
 rw [if_neg (by omega)]
 show wpAny _ _ (if ((kvs.length:Nat):Int) ≥ 2 ^ 63 then _ else _) _ _ _
 rw [if_neg (by omega)]
 exact wpAny_bind (wpAny_mkInt (wpAny_pure ⟨_,rfl,h⟩))
section
variable {X:Cx}
theorem call_lenT:CallR X (.builtin "len") (fun xs H Q=>∃ a kvs,xs=[V.ref a]/\Rd H a (.dT kvs)/\Q (.int kvs.length) H):=by
 intro pins s σ H xs us Q I r h
 obtain ⟨a,kvs,rfl,ha,q⟩:=h
 obtain ⟨u,rfl,ru⟩:=vals1 r
 cases ru
 obtain ⟨z,hd,ys,rel,dd⟩:=dt_rd I.hok ha
 have hl:ys.length=kvs.length:=(Paired.length rel).symm
 refine call_len_H hd dd (by rw [hl]; rw [sizeLine_eq] at z; omega) ?_
 rw [hl]
 exact ⟨.int kvs.length,H,I.tok _,⟨_,rfl⟩,q⟩
noncomputable def rLen (K:PySem.W.Frag):List V->Hp->VK->Prop:=fun xs H Q=>(∃ p ys,xs=[.ref p]/\(SqL K H p ys\/SqT K H p ys)/\Q (.int ys.length) H)\/(∃ z,xs=[.str z]/\z.length<=sizeLine/\Q (.int z.length) H)\/(∃ a kvs,xs=[V.ref a]/\Rd H a (.dT kvs)/\Q (.int kvs.length) H)
theorem call_len:CallR X (.builtin "len") (rLen X.K):=call_len_seq.or (call_len_str.or call_lenT)
noncomputable def fLen:D->Option D
 | .lst ds=>some (.int ds.length)
 | .tup ds=>some (.int ds.length)
 | .scr ns=>some (.int ns.length)
 | .dic kvs=>some (.int kvs.length)
 | .str z=>if z.length<=1000000 then some (.int z.length) else none
 | _=>none
theorem cd_len {K:PySem.W.Frag}:CallD K (rLen K) fLen:=fun H O dx d v Q fr e rx q=>by
 cases dx with
 | lst ds =>
  cases e
  obtain ⟨a,vs,rfl,h1,r1⟩:=rx.lst
  exact .inl ⟨a,vs,rfl,.inl (SqL.of h1),by rw [r1.length]; exact q _ H (Same.refl _) (by unfold Rp; rfl)⟩
 | tup ds =>
  cases e
  obtain ⟨a,vs,rfl,h1,r1⟩:=rx.tup
  exact .inl ⟨a,vs,rfl,.inr (SqT.of h1),by rw [r1.length]; exact q _ H (Same.refl _) (by unfold Rp; rfl)⟩
 | scr ns =>
  cases e
  rcases rx with rx | ⟨_,_,h⟩
  ·obtain ⟨a,rfl,h1⟩:=rx.scr
   exact .inl ⟨a,_,rfl,.inl h1,by rw [List.length_map]; exact q _ H (Same.refl _) (by unfold Rp; rfl)⟩
  ·exact h.elim
 | dic kvs =>
  cases e
  obtain ⟨a,ws,rfl,h1,r1⟩:=rx.dic
  exact .inr (.inr ⟨a,ws,rfl,h1,by rw [r1.length]; exact q _ H (Same.refl _) (by unfold Rp; rfl)⟩)
 | str z =>
  simp only [fLen] at e
  split at e
  ·rename_i hz
   cases e
   exact .inr (.inl ⟨z,by rw [rx.str],by rw [sizeLine_eq]; omega,q _ H (Same.refl _) (by unfold Rp; rfl)⟩)
  ·cases e
 | _=>cases e
noncomputable def rList (K:PySem.W.Frag):List V->Hp->VK->Prop:=fun xs H Q=>∃ p ys,xs=[.ref p]/\(SqL K H p ys\/SqT K H p ys)/\∀ l,H l=none->Q (.ref l) (upd H l (.lst ys))
theorem call_list:CallR X (.type "list") (rList X.K):=call_list_of
noncomputable def fList:D->Option D
 | .lst ds=>some (.lst ds)
 | .tup ds=>some (.lst ds)
 | _=>none
theorem cn_list {K:PySem.W.Frag}:CallN K (rList K) fList:=fun H O dx d v Q fr e rx q=>by
 cases dx with
 | lst ds =>
  cases e
  obtain ⟨a,vs,rfl,h1,r1⟩:=rx.lst
  exact ⟨a,vs,rfl,.inl (SqL.of h1),fun l hl=>q l _ (same_upd hl) hl ⟨vs,upd_same,(r1.fresh hl).mono (same_upd hl) fun _ z=>z⟩⟩
 | tup ds =>
  cases e
  obtain ⟨a,vs,rfl,h1,r1⟩:=rx.tup
  exact ⟨a,vs,rfl,.inr (SqT.of h1),fun l hl=>q l _ (same_upd hl) hl ⟨vs,upd_same,(r1.fresh hl).mono (same_upd hl) fun _ z=>z⟩⟩
 | _=>cases e
theorem walk_bools {pins:List (Addr × Obj)} {σ:St} {H:Hp} {s:Shared} {p:Addr} {bs:List Bool} {E:Value->Shared->Prop} (hc:X.calm=true) (I:Inv X pins σ H s) (h:SqL X.K H p (bs.map V.bl)) {Qz:Bool->Value->Shared->Prop} (neg:Bool)
  (q:∀ s',Inv X pins σ H s'->Qz neg (.bool (if neg then bs.any id else bs.all id)) s') :
  wpAny (model X.prog X.w) X.A.in1 (pyIter (.ref p)) (fun it s₂=>∃ I fp wr n P St tr,it=.ref I/\Walks X.prog X.w X.A.in1 I fp wr n P St/\St 0 s₂.heap/\TruthOf X.prog X.w X.A.in1 P tr ∧
   ∀ h' tk,(∀ b o,b ∉ wr->s₂.heap.get? b=some o->h'.get? b=some o)->Qz neg (.bool (if neg then (List.range n).any tr else (List.range n).all tr)) { s₂ with heap:=h',toks:=tk }) E s:=by
 obtain ⟨its,rv,pl,hz⟩:=I.list h
 have hl:its.length=bs.length:=by rw [<-rv.length]; simp
 have hp:p ≠ s.heap.objs.size:=by obtain ⟨o,e,_⟩:=pl.isList; exact Nat.ne_of_lt (Heap.lt_size e)
 have at':∀ (i:Nat) (v:Value),its.toArray[i]?=some v->∃ b,bs[i]?=some b/\v=.bool b:=fun i v e=>by
  have e:its[i]?=some v:=by simpa using e
  have hi:i < bs.length:=by rw [<-hl]; exact (List.getElem?_eq_some_iff.mp e).1
  obtain ⟨u,e1,r1⟩:=rv.get (i:=i) (x:=.bl bs[i]) (by simp [hi])
  rw [e] at e1; cases e1
  exact ⟨bs[i],by simp [hi],r1⟩
 refine wpAny_pyIter_list pl.isList ⟨s.heap.objs.size,_,_,_,_,_,fun i=>bs.getD i false,rfl,Walks.list (by show X.A.handled=none; exact I.ok.hd hc) _ p hp its.toArray,⟨⟨_,Heap.get?_push_size _ rfl,rfl,rfl⟩,pl.isList.at fun o e=>Heap.get?_push_of_some _ e⟩,?_,fun h' tk k=>?_⟩
 ·intro i v s' Q' E' hP hQ
  obtain ⟨b,e1,rfl⟩:=at' i v hP
  refine wpAny_truthy_bool ?_
  dsimp only at hQ
  rw [List.getD_eq_getElem?_getD,e1] at hQ
  exact hQ
 ·have I':Inv X pins σ H { s with heap:=h',toks:=tk }:=I.kept fun b o e=>k b o (by
   have:=Heap.lt_size e
   simp only [List.mem_cons,List.not_mem_nil,or_false]
   exact Nat.ne_of_lt this) (Heap.get?_push_of_some _ e)
  have e1:(List.range its.toArray.size).any (fun i=>bs.getD i false)=bs.any id:=by
   rw [List.size_toArray,hl]
   conv=>rhs; rw [<-range_getD bs false]
   rw [List.any_map]; rfl
  have e2:(List.range its.toArray.size).all (fun i=>bs.getD i false)=bs.all id:=by
   rw [List.size_toArray,hl]
   conv=>rhs; rw [<-range_getD bs false]
   rw [List.all_map]; rfl
  rw [e1,e2]
  exact q _ I'
noncomputable def rAll (K:PySem.W.Frag):List V->Hp->VK->Prop:=fun xs H Q=>∃ (p:Addr) (bs:List Bool),xs=[.ref p]/\SqL K H p (bs.map V.bl)/\Q (.bl (bs.all id)) H
noncomputable def rAny (K:PySem.W.Frag):List V->Hp->VK->Prop:=fun xs H Q=>∃ (p:Addr) (bs:List Bool),xs=[.ref p]/\SqL K H p (bs.map V.bl)/\Q (.bl (bs.any id)) H
theorem call_allL (hc:X.calm=true):CallR X (.builtin "all") (rAll X.K):=by
 intro pins s σ H xs us Q I r h
 obtain ⟨p,bs,rfl,hp,q⟩:=h
 obtain ⟨u,rfl,ru⟩:=vals1 r
 cases ru
 refine call_all_walk ?_
 exact walk_bools (Qz:=fun _=>EP X pins σ Q) hc I hp false fun s' I'=>⟨.bl _,H,I',rfl,q⟩
theorem call_anyL (hc:X.calm=true):CallR X (.builtin "any") (rAny X.K):=by
 intro pins s σ H xs us Q I r h
 obtain ⟨p,bs,rfl,hp,q⟩:=h
 obtain ⟨u,rfl,ru⟩:=vals1 r
 cases ru
 refine call_any_walk ?_
 exact walk_bools (Qz:=fun _=>EP X pins σ Q) hc I hp true fun s' I'=>⟨.bl _,H,I',rfl,q⟩
noncomputable def bls:List D->Option (List Bool)
 | []=>some []
 | .bl b :: r=>(bls r).map (b :: ·)
 | _ :: _=>none
theorem bls_some:∀ {ds:List D} {bs:List Bool},bls ds=some bs->ds=bs.map D.bl
 | [],bs,h=>by simp [bls] at h; subst h; rfl
 | .bl i :: r,ns,h=>by
  simp only [bls,Option.map_eq_some_iff] at h
  obtain ⟨ms,h1,rfl⟩:=h
  rw [bls_some h1]; rfl
 | .non :: r,ns,h=>by simp [bls] at h
 | .int _ :: r,ns,h=>by simp [bls] at h
 | .str _ :: r,ns,h=>by simp [bls] at h
 | .tup _ :: r,ns,h=>by simp [bls] at h
 | .lst _ :: r,ns,h=>by simp [bls] at h
 | .dic _ :: r,ns,h=>by simp [bls] at h
 | .scr _ :: r,ns,h=>by simp [bls] at h
@[simp] theorem bls_map:∀ bs:List Bool,bls (bs.map D.bl)=some bs
 | []=>rfl
 | n :: ns=>by simp [bls,bls_map ns]
theorem Rps.bls {K:PySem.W.Frag} {H:Hp} {O:Addr->Prop}:∀ {ns:List Bool} {vs:List V},Rps K H O (ns.map D.bl) vs->vs=ns.map V.bl
 | [],vs,h=>by unfold Rps at h; exact h
 | n :: ns,vs,h=>by
  unfold Rps at h
  obtain ⟨v,r,rfl,p,q⟩:=h
  unfold Rp at p
  rw [p,Rps.bls q]; rfl
noncomputable def fAll:D->Option D
 | .lst ds=>(bls ds).map fun bs=>.bl (bs.all id)
 | _=>none
noncomputable def fAny:D->Option D
 | .lst ds=>(bls ds).map fun bs=>.bl (bs.any id)
 | _=>none
theorem cd_all {K:PySem.W.Frag}:CallD K (rAll K) fAll:=fun H O dx d v Q fr e rx q=>by
 cases dx with
 | lst ds =>
  simp only [fAll,Option.map_eq_some_iff] at e
  obtain ⟨bs,e,rfl⟩:=e
  obtain ⟨a,vs,rfl,h1,r1⟩:=rx.lst
  rw [bls_some e] at r1
  exact ⟨a,bs,rfl,SqL.of (by rw [<-r1.bls]; exact h1),q _ H (Same.refl _) (by unfold Rp; rfl)⟩
 | _=>cases e
theorem cd_any {K:PySem.W.Frag}:CallD K (rAny K) fAny:=fun H O dx d v Q fr e rx q=>by
 cases dx with
 | lst ds =>
  simp only [fAny,Option.map_eq_some_iff] at e
  obtain ⟨bs,e,rfl⟩:=e
  obtain ⟨a,vs,rfl,h1,r1⟩:=rx.lst
  rw [bls_some e] at r1
  exact ⟨a,bs,rfl,SqL.of (by rw [<-r1.bls]; exact h1),q _ H (Same.refl _) (by unfold Rp; rfl)⟩
 | _=>cases e
end
end M

set_option Elab.async false
set_option linter.all false
set_option maxRecDepth 100000
namespace M
open PySem PySem.W PySem.Spec PyProof.Rows L2

structure LtOk (lt:Nat->Nat->Bool):Prop where
 refl:∀ a,lt a a=false
 tr:∀ {a b c},lt b a=false->lt c b=false->lt c a=false
 as:∀ {a b},lt a b=true->lt b a=false
section
variable {n:Nat} {lt:Nat->Nat->Bool}
noncomputable def Sd (lt:Nat->Nat->Bool) (p:Array Nat) (m:Nat):Prop:=∀ i j,i<=j->j < m->lt (p.getD j 0) (p.getD i 0)=false
variable (L:LtOk lt)
include L
end
end M

set_option Elab.async false
set_option linter.all false
set_option maxRecDepth 100000
set_option maxHeartbeats 1000000
namespace M
open PySem PyProof.Rows
structure LtK (lt:Keyed->Keyed->Bool):Prop where
 irr:∀ a,lt a a=false
 tr:∀ {a b c},lt b a=false->lt c b=false->lt c a=false
 as:∀ {a b},lt a b=true->lt b a=false
noncomputable def AnsK (prog:Program) (w:World) (A:Around) (s:Shared) (κ:SortKind) (lt:Keyed->Keyed->Bool) (S:Keyed->Prop):Prop :=
 ∀ (x y:Keyed) (Q:Bool->Shared->Prop),S x->S y->Q (lt x y) s->wpAny (model prog w) A (keyLt' κ x.1 y.1) Q (fun _ _=>False) s
noncomputable def gallop':Bool->Keyed->Array Keyed->Nat->Nat->Nat->StateT SortSt Sem (Option Nat):=sortPriv% PySem.Builtin.gallop
noncomputable def mergeLo':Array Keyed->Array Keyed->StateT SortSt Sem (Array Keyed):=sortPriv% PySem.Builtin.mergeLo
noncomputable def mergeHi':Array Keyed->Array Keyed->StateT SortSt Sem (Array Keyed):=sortPriv% PySem.Builtin.mergeHi
section
variable {prog:Program} {w:World} {A:Around} {E:Value->Shared->Prop} {s:Shared} {lt:Keyed->Keyed->Bool} {κ:SortKind} {S:Keyed->Prop}
theorem ltk_ok {st:SortSt} {x y:Keyed} {Q:Option Bool->SortSt->Prop} (h:AnsK prog w A s κ lt S) (hk:kindOf st=κ) (hx:S x) (hy:S y) (q:Q (some (lt x y)) st):wpS (model prog w) A E s (lt' x y) Q st:=by
 rw [lt'_eq]
 refine wpS_bind (wpS_get ?_)
 rw [hk]
 exact wpS_bind (wpS_lift (wpAny_attempt (wpAny_mono (h x y (fun b s'=>s'=s/\b=lt x y) hx hy ⟨rfl,rfl⟩) (fun c s' hc=>by obtain ⟨rfl,rfl⟩:=hc; exact ⟨rfl,wpS_pure q⟩) fun _ _ hF=>hF.elim)))
theorem elem_ok {st:SortSt} {arr:Array Keyed} {i:Nat} {x:Keyed} {Q:Keyed->SortSt->Prop} (h:arr[i]?=some x) (q:Q x st):wpS (model prog w) A E s (elem' arr i) Q st:=by
 rw [elem'_eq,h]
 exact wpS_pure q
noncomputable def bey (lt:Keyed->Keyed->Bool) (left:Bool) (key x:Keyed):Bool:=if left=true then lt x key else !lt key x
theorem ask_ok {st:SortSt} {arr:Array Keyed} {i:Nat} {left:Bool} {key x:Keyed} {Q:Option Bool->SortSt->Prop} (h:AnsK prog w A s κ lt S) (hk:kindOf st=κ) (hy:S key) (e:arr[i]?=some x) (hx:S x) (q:Q (some (bey lt left key x)) st) :
  wpS (model prog w) A E s (elem' arr i >>= fun z=>if left=true then lt' z key else lt' key z >>= fun c=>pure (c.map fun x=>!x)) Q st:=by
 refine wpS_bind (elem_ok e ?_)
 unfold bey at q
 cases left with
 | true=>rw [if_pos rfl] at q ⊢; exact ltk_ok h hk hx hy q
 | false=>rw [if_neg (by simp)] at q ⊢; exact wpS_bind (ltk_ok h hk hy hx (wpS_pure q))
theorem gallop_ok {st:SortSt} {arr:Array Keyed} {left:Bool} {key:Keyed} {base n hint:Nat} {B:Nat->Bool} {Q:Option Nat->SortSt->Prop} (h:AnsK prog w A s κ lt S) (hk:kindOf st=κ) (hy:S key) (hh:hint < n)
  (hB:∀ i,i < n->∃ x,arr[base + i]?=some x/\S x/\bey lt left key x=B i) (mono:∀ i j,i<=j->j < n->B j=true->B i=true)
  (q:∀ k,k<=n->(∀ i,i < k->B i=true)->(∀ i,k<=i->i < n->B i=false)->Q (some k) st):wpS (model prog w) A E s (gallop' left key arr base n hint) Q st:=by
 have ask:∀ i,i < n->∀ {R:Option Bool->SortSt->Prop},R (some (B i)) st->wpS (model prog w) A E s (elem' arr (base + i) >>= fun z=>if left=true then lt' z key else lt' key z >>= fun c=>pure (c.map fun x=>!x)) R st:=fun i hi R hR=>by
  obtain ⟨x,e,hx,eb⟩:=hB i hi
  exact ask_ok h hk hy e hx (by rw [eb]; exact hR)
 have monoF:∀ i j,i<=j->j < n->B i=false->B j=false:=fun i j hij hj hf=>by
  cases hb:B j with
  | false=>rfl
  | true=>rw [mono i j hij hj hb] at hf; cases hf
 -- the second loop
 have second:∀ lo hi,lo<=hi->hi<=n->(∀ i,i < lo->B i=true)->(∀ i,hi<=i->i < n->B i=false)->wpS (model prog w) A E s (forIn [:n] ((none,lo,hi):Option (Option Nat) × Nat × Nat) fun x z =>
   if z.2.1 ≥ z.2.2 then pure (ForInStep.done (none,z.2.1,z.2.2))
   else (elem' arr (base + (z.2.1 + (z.2.2 - z.2.1) / 2)) >>= fun v=>if left=true then lt' v key else lt' key v >>= fun c=>pure (c.map fun x=>!x)) >>= fun y=>match y with
    | some more=>if more=true then pure (ForInStep.yield (none,z.2.1 + (z.2.2 - z.2.1) / 2 + 1,z.2.2)) else pure (ForInStep.yield (none,z.2.1,z.2.1 + (z.2.2 - z.2.1) / 2))
    | _=>pure (ForInStep.done (some none,z.2.1,z.2.2)))
   (fun c st'=>∃ l,∃ k,c=(none,l,k)/\st'=st/\k<=n/\(∀ i,i < k->B i=true)/\(∀ i,k<=i->i < n->B i=false)) st:=by
  intro lo hi hlh hhn hlo hhi
  refine wpS_forRange (I:=fun x c st'=>st'=st/\∃ l k,c=(none,l,k)/\l<=k/\k<=n/\k - l<=n - x/\(∀ i,i < l->B i=true)/\(∀ i,k<=i->i < n->B i=false)) ?_ ?_ ⟨rfl,lo,hi,rfl,hlh,hhn,by omega,hlo,hhi⟩
  ·rintro x c st' _ hx ⟨rfl,l,k,rfl,h1,h2,h3,h4,h5⟩
   dsimp only
   by_cases hge:l ≥ k
   ·rw [if_pos hge]
    obtain rfl:l=k:=by omega
    exact wpS_pure ⟨l,l,rfl,rfl,h2,h4,h5⟩
   ·rw [if_neg hge]
    refine wpS_bind (ask _ (by omega) ?_)
    cases hb:B (l + (k - l) / 2) with
    | true=>exact wpS_pure ⟨rfl,_,_,rfl,by omega,h2,by omega,fun i hi=>mono i _ (by omega) (by omega) hb,h5⟩
    | false=>exact wpS_pure ⟨rfl,_,_,rfl,by omega,by omega,by omega,h4,fun i h6 h7=>monoF _ i h6 h7 hb⟩
  ·rintro c st' ⟨rfl,l,k,rfl,h1,h2,h3,h4,h5⟩
   obtain rfl:l=k:=by omega
   exact ⟨l,l,rfl,rfl,h2,h4,h5⟩
 refine wpS_bind (ask hint hh ?_)
 cases hb:B hint with
 | true =>
  refine wpS_bind (wpS_mono (wpS_forRange (I:=fun x c st'=>st'=st/\∃ l o,c=(none,l,o)/\x + 1<=o/\l < o/\hint + l < n/\B (hint + l)=true)
   (Q:=fun c st'=>st'=st/\∃ l o,c=(none,l,o)/\l < o/\hint + l < n/\B (hint + l)=true/\(o ≥ n - hint\/B (hint + o)=false)) ?_ ?_ ⟨rfl,0,1,rfl,by omega,by omega,by omega,hb⟩) ?_)
  ·rintro x c st' _ hx ⟨rfl,l,o,rfl,h1,h2,h3,h4⟩
   dsimp only
   by_cases hge:o ≥ n - hint
   ·rw [if_pos hge]
    exact wpS_pure ⟨rfl,l,o,rfl,h2,h3,h4,.inl hge⟩
   ·rw [if_neg hge]
    refine wpS_bind (ask _ (by omega) ?_)
    cases hm:B (hint + o) with
    | true=>exact wpS_pure ⟨rfl,o,2 * o + 1,rfl,by omega,by omega,by omega,hm⟩
    | false=>exact wpS_pure ⟨rfl,l,o,rfl,h2,h3,h4,.inr hm⟩
  ·rintro c st' ⟨rfl,l,o,rfl,h1,h2,h3,h4⟩
   exact ⟨rfl,l,o,rfl,h2,h3,h4,.inl (by omega)⟩
  ·rintro c st' ⟨rfl,l,o,rfl,h1,h2,h3,h4⟩
   refine wpS_bind (wpS_mono (second (hint + l + 1) (hint + min o (n - hint)) (by omega) (by omega) (fun i hi=>mono i _ (by omega) h2 h3) fun i hi hin=>?_) ?_)
   ·rcases h4 with h4 | h4
    ·omega
    ·exact monoF _ i (by omega) hin h4
   ·rintro c st' ⟨l,k,rfl,rfl,a1,a2,a3⟩
    exact wpS_pure (q k a1 a2 a3)
 | false =>
  refine wpS_bind (wpS_mono (wpS_forRange (I:=fun x c st'=>st'=st/\∃ l o,c=(none,l,o)/\x + 1<=o/\l < o/\l<=hint/\B (hint - l)=false)
   (Q:=fun c st'=>st'=st/\∃ l o,c=(none,l,o)/\l < o/\l<=hint/\B (hint - l)=false/\(o ≥ hint + 1\/B (hint - o)=true)) ?_ ?_ ⟨rfl,0,1,rfl,by omega,by omega,by omega,hb⟩) ?_)
  ·rintro x c st' _ hx ⟨rfl,l,o,rfl,h1,h2,h3,h4⟩
   dsimp only
   by_cases hge:o ≥ hint + 1
   ·rw [if_pos hge]
    exact wpS_pure ⟨rfl,l,o,rfl,h2,h3,h4,.inl hge⟩
   ·rw [if_neg hge]
    refine wpS_bind (ask _ (by omega) ?_)
    cases hm:B (hint - o) with
    | true=>exact wpS_pure ⟨rfl,l,o,rfl,h2,h3,h4,.inr hm⟩
    | false=>exact wpS_pure ⟨rfl,o,2 * o + 1,rfl,by omega,by omega,by omega,hm⟩
  ·rintro c st' ⟨rfl,l,o,rfl,h1,h2,h3,h4⟩
   exact ⟨rfl,l,o,rfl,h2,h3,h4,.inl (by omega)⟩
  ·rintro c st' ⟨rfl,l,o,rfl,h1,h2,h3,h4⟩
   refine wpS_bind (wpS_mono (second (hint + 1 - min o (hint + 1)) (hint - l) (by omega) (by omega) (fun i hi=>?_) fun i hi hin=>monoF _ i hi hin h3) ?_)
   ·rcases h4 with h4 | h4
    ·omega
    ·exact mono i _ (by omega) (by omega) h4
   ·rintro c st' ⟨l,k,rfl,rfl,a1,a2,a3⟩
    exact wpS_pure (q k a1 a2 a3)
end
noncomputable def SrtL (lt:Keyed->Keyed->Bool) (l:List Keyed):Prop:=l.Pairwise fun x y=>lt y x=false
noncomputable def Fine (lt:Keyed->Keyed->Bool) (a b out:Array Keyed):Prop:=SrtL lt out.toList/\out.toList.Perm (a.toList++b.toList)
structure MI (lt:Keyed->Keyed->Bool) (a b out:Array Keyed) (i j:Nat):Prop where
 asc:SrtL lt out.toList
 low:∀ x ∈ out.toList,∀ y,y ∈ a.toList.drop i\/y ∈ b.toList.drop j->lt y x=false
 prm:(out.toList++(a.toList.drop i++b.toList.drop j)).Perm (a.toList++b.toList)
section
variable {lt:Keyed->Keyed->Bool} {a b out:Array Keyed} {i j:Nat}
theorem head_le (L:LtK lt) {x y:Keyed} {l:List Keyed} (h:SrtL lt (x :: l)) (e:lt x y=false):∀ z ∈ x :: l,lt z y=false:=fun z hz=>by
 rcases List.mem_cons.mp hz with rfl | hz
 ·exact e
 ·exact L.tr e ((List.pairwise_cons.mp h).1 z hz)
theorem drop_at {arr:Array Keyed} {i:Nat} {x:Keyed} (h:arr[i]?=some x):arr.toList.drop i=x :: arr.toList.drop (i + 1):=by
 obtain ⟨hi,rfl⟩:=Array.getElem?_eq_some_iff.mp h
 rw [List.drop_eq_getElem_cons (by simpa using hi)]
 simp
theorem srt_drop {arr:Array Keyed} (h:SrtL lt arr.toList) (i:Nat):SrtL lt (arr.toList.drop i):=List.Pairwise.sublist (List.drop_sublist i _) h
theorem srt_at (L:LtK lt) {arr:Array Keyed} (h:SrtL lt arr.toList) {i j:Nat} {x y:Keyed} (hij:i<=j) (hx:arr[i]?=some x) (hy:arr[j]?=some y):lt y x=false:=by
 by_cases e:i=j
 ·subst e; rw [hx] at hy; cases hy; exact L.irr _
 ·obtain ⟨hi,rfl⟩:=Array.getElem?_eq_some_iff.mp hx
  obtain ⟨hj,rfl⟩:=Array.getElem?_eq_some_iff.mp hy
  have:=List.pairwise_iff_getElem.mp h i j (by simpa using hi) (by simpa using hj) (by omega)
  simpa using this
theorem MI.pushB (I:MI lt a b out i j) (hb:SrtL lt b.toList) {y:Keyed} (e:b[j]?=some y) (h:∀ z ∈ a.toList.drop i,lt z y=false):MI lt a b (out.push y) i (j + 1):=by
 have d:=drop_at e
 have sb:=srt_drop hb j
 rw [d] at sb
 refine ⟨?_,fun x hx z hz=>?_,?_⟩
 ·rw [Array.toList_push]
  refine List.pairwise_append.mpr ⟨I.asc,List.pairwise_singleton ..,fun x hx z hz=>?_⟩
  cases List.mem_singleton.mp hz
  exact I.low x hx _ (.inr (by rw [d]; exact List.mem_cons_self))
 ·rw [Array.toList_push] at hx
  rcases List.mem_append.mp hx with hx | hx
  ·exact I.low x hx z (hz.imp id fun q=>by rw [d]; exact List.mem_cons_of_mem _ q)
  ·cases List.mem_singleton.mp hx
   rcases hz with hz | hz
   ·exact h z hz
   ·exact (List.pairwise_cons.mp sb).1 z hz
 ·refine List.Perm.trans ?_ I.prm
  rw [Array.toList_push,d,List.append_assoc]
  refine List.Perm.append_left _ ?_
  show (y :: (List.drop i a.toList++List.drop (j + 1) b.toList)).Perm _
  exact List.perm_middle.symm
theorem MI.pushA (I:MI lt a b out i j) (ha:SrtL lt a.toList) {y:Keyed} (e:a[i]?=some y) (h:∀ z ∈ b.toList.drop j,lt z y=false):MI lt a b (out.push y) (i + 1) j:=by
 have d:=drop_at e
 have sa:=srt_drop ha i
 rw [d] at sa
 refine ⟨?_,fun x hx z hz=>?_,?_⟩
 ·rw [Array.toList_push]
  refine List.pairwise_append.mpr ⟨I.asc,List.pairwise_singleton ..,fun x hx z hz=>?_⟩
  cases List.mem_singleton.mp hz
  exact I.low x hx _ (.inl (by rw [d]; exact List.mem_cons_self))
 ·rw [Array.toList_push] at hx
  rcases List.mem_append.mp hx with hx | hx
  ·exact I.low x hx z (hz.imp (fun q=>by rw [d]; exact List.mem_cons_of_mem _ q) id)
  ·cases List.mem_singleton.mp hx
   rcases hz with hz | hz
   ·exact (List.pairwise_cons.mp sa).1 z hz
   ·exact h z hz
 ·refine List.Perm.trans ?_ I.prm
  rw [Array.toList_push,d,List.append_assoc]
  exact List.Perm.refl _
theorem ext_push {arr:Array Keyed} {i k:Nat} (h:i + k < arr.size):arr.extract i (i + (k + 1))=(arr.extract i (i + k)).push arr[i + k]:=by
 rw [Array.push_extract_getElem h,Nat.min_eq_left (Nat.le_add_right i k)]
 rfl
theorem ext_nil (arr:Array Keyed) (i:Nat):arr.extract i (i + 0)=#[]:=Array.toList_inj.mp (by rw [Array.toList_extract]; simp)
theorem MI.runA (I:MI lt a b out i j) (ha:SrtL lt a.toList):∀ (k:Nat),i + k<=a.size->(∀ m,m < k->∀ y,a[i + m]?=some y->∀ z ∈ b.toList.drop j,lt z y=false)->MI lt a b (out++a.extract i (i + k)) (i + k) j
 | 0,_,_=>by rw [ext_nil,Array.append_empty]; exact I
 | k + 1,hk,h=>by
  have r:=(I.runA ha k (by omega) fun m hm=>h m (by omega)).pushA ha (y:=a[i + k]) (Array.getElem?_eq_getElem (by omega)) (h k (by omega) _ (Array.getElem?_eq_getElem (by omega)))
  rw [ext_push (by omega),Array.append_push]
  exact r
theorem MI.runB (I:MI lt a b out i j) (hb:SrtL lt b.toList):∀ (k:Nat),j + k<=b.size->(∀ m,m < k->∀ y,b[j + m]?=some y->∀ z ∈ a.toList.drop i,lt z y=false)->MI lt a b (out++b.extract j (j + k)) i (j + k)
 | 0,_,_=>by rw [ext_nil,Array.append_empty]; exact I
 | k + 1,hk,h=>by
  have r:=(I.runB hb k (by omega) fun m hm=>h m (by omega)).pushB hb (y:=b[j + k]) (Array.getElem?_eq_getElem (by omega)) (h k (by omega) _ (Array.getElem?_eq_getElem (by omega)))
  rw [ext_push (by omega),Array.append_push]
  exact r
theorem ext_drop (arr:Array Keyed) (i:Nat):(arr.extract i arr.size).toList=arr.toList.drop i:=by
 rw [Array.toList_extract,List.extract_eq_take_drop]
 exact List.take_of_length_le (by simp)
theorem MI.done (I:MI lt a b out i j) (ha:SrtL lt a.toList) (hb:SrtL lt b.toList) (h:a.size<=i\/b.size<=j):Fine lt a b (out++a.extract i a.size++b.extract j b.size):=by
 unfold Fine
 rw [Array.toList_append,Array.toList_append,ext_drop,ext_drop,List.append_assoc]
 refine ⟨List.pairwise_append.mpr ⟨I.asc,List.pairwise_append.mpr ⟨srt_drop ha i,srt_drop hb j,fun x hx y hy=>?_⟩,fun x hx y hy=>I.low x hx y (List.mem_append.mp hy)⟩,I.prm⟩
 rcases h with h | h
 ·rw [List.drop_of_length_le (by simpa using h)] at hx; cases hx
 ·rw [List.drop_of_length_le (by simpa using h)] at hy; cases hy
theorem MI.lastA (I:MI lt a b out i j) (ha:SrtL lt a.toList) (hb:SrtL lt b.toList) (hl:∀ x ∈ a.toList.drop (a.size - 1),∀ y ∈ b.toList,lt x y=false) (h:i + 1=a.size):Fine lt a b (out++b.extract j b.size++a.extract i a.size):=by
 unfold Fine
 rw [Array.toList_append,Array.toList_append,ext_drop,ext_drop,List.append_assoc]
 refine ⟨List.pairwise_append.mpr ⟨I.asc,List.pairwise_append.mpr ⟨srt_drop hb j,srt_drop ha i,fun x hx y hy=>?_⟩,fun x hx y hy=>I.low x hx y (List.mem_append.mp hy).symm⟩,(List.Perm.append_left _ List.perm_append_comm).trans I.prm⟩
 exact hl y (by rwa [show a.size - 1=i by omega]) x (List.mem_of_mem_drop hx)
end
noncomputable abbrev stG (st:SortSt) (g:Nat):SortSt:=SortSt.mk' (kindOf st) (arrOf st) (pendingOf st) g (failedOf st)
noncomputable def Mid (lt:Keyed->Keyed->Bool) (a b o:Array Keyed) (i j:Nat):Prop:=MI lt a b o i j/\i + 1 < a.size/\j < b.size
section
variable {prog:Program} {w:World} {A:Around} {E:Value->Shared->Prop} {s:Shared} {lt:Keyed->Keyed->Bool} {κ:SortKind} {S:Keyed->Prop}
noncomputable abbrev LoT:Type:=Option (Array Keyed) × Array Keyed × Nat × Nat × Nat × Nat × Nat
noncomputable def segC (a b o:Array Keyed) (i j m p r:Nat):StateT SortSt Sem (ForInStep LoT) :=
 elem' a i >>= fun v=>if (i + 1 + 1 == a.size)=true then pure (.done (some (o.push v++b.extract j b.size++a.extract (i + 1) a.size),o.push v,i + 1,j,m,p,r))
  else if (decide (p < 7) && decide (r < 7))=true then pure (.done (none,o.push v,i + 1,j,m,p,r)) else pure (.yield (none,o.push v,i + 1,j,m,p,r))
noncomputable def segB (a b o:Array Keyed) (i j m p r:Nat):StateT SortSt Sem (ForInStep LoT) :=
 elem' b j >>= fun y=>if (j + 1 == b.size)=true then pure (.done (some (o.push y++a.extract i a.size++b.extract (j + 1) b.size),o.push y,i,j + 1,m,p,r))
  else elem' a i >>= fun v=>gallop' true v b (j + 1) (b.size - (j + 1)) 0 >>= fun t=>match t with
   | some k=>if k > 0 then (if (j + 1 + k == b.size)=true then pure (.done (some (o.push y++b.extract (j + 1) (j + 1 + k)++a.extract i a.size++b.extract (j + 1 + k) b.size),o.push y++b.extract (j + 1) (j + 1 + k),i,j + 1 + k,m,p,k))
     else segC a b (o.push y++b.extract (j + 1) (j + 1 + k)) i (j + 1 + k) m p k) else segC a b (o.push y) i (j + 1) m p k
   | _=>pure (.done (some (o.push y++a.extract i a.size++b.extract (j + 1) b.size),o.push y,i,j + 1,m,p,r))
noncomputable def segA (a b o:Array Keyed) (i j m p r:Nat):StateT SortSt Sem (ForInStep LoT) :=
 elem' b j >>= fun y=>gallop' false y a i (a.size - i) 0 >>= fun t=>match t with
  | some k=>if k > 0 then (if (i + k + 1 == a.size)=true then pure (.done (some (o++a.extract i (i + k)++b.extract j b.size++a.extract (i + k) a.size),o++a.extract i (i + k),i + k,j,m,k,r))
    else if (i + k == a.size)=true then pure (.done (some (o++a.extract i (i + k)++a.extract (i + k) a.size++b.extract j b.size),o++a.extract i (i + k),i + k,j,m,k,r))
    else segB a b (o++a.extract i (i + k)) (i + k) j m k r) else segB a b o i j m k r
  | _=>pure (.done (some (o++a.extract i a.size++b.extract j b.size),o,i,j,m,p,r))
structure MCx (prog:Program) (w:World) (A:Around) (s:Shared) (κ:SortKind) (lt:Keyed->Keyed->Bool) (S:Keyed->Prop) (a b:Array Keyed):Prop where
 L:LtK lt
 h:AnsK prog w A s κ lt S
 ga:∀ i,i < a.size->∃ x,a[i]?=some x/\S x
 gb:∀ i,i < b.size->∃ x,b[i]?=some x/\S x
 ha:SrtL lt a.toList
 hb:SrtL lt b.toList
structure LoP (lt:Keyed->Keyed->Bool) (a b:Array Keyed) (n:Nat) (st:SortSt) (P:ForInStep LoT->SortSt->Prop):Prop where
 r:∀ r z,Fine lt a b r->P (.done (some r,z)) st
 d:∀ o i j z,Mid lt a b o i j->n<=i + j->P (.done (none,o,i,j,z)) st
 y:∀ o i j z,Mid lt a b o i j->n<=i + j->P (.yield (none,o,i,j,z)) st
variable {a b o:Array Keyed} {i j m p r n:Nat} {st:SortSt} {P:ForInStep LoT->SortSt->Prop}
theorem segC_ok (X:MCx prog w A s κ lt S a b) (hl:∀ x ∈ a.toList.drop (a.size - 1),∀ y ∈ b.toList,lt x y=false) (pP:LoP lt a b n st P) (I:MI lt a b o i j) (h1:i + 1 < a.size) (h2:j < b.size) (hn:n<=i + j) {v:Keyed} (ev:a[i]?=some v) (Z:∀ z ∈ b.toList.drop j,lt z v=false) :
  wpS (model prog w) A E s (segC a b o i j m p r) P st:=by
 unfold segC
 refine wpS_bind (elem_ok ev ?_)
 have I6:=I.pushA X.ha ev Z
 by_cases d2:(i + 1 + 1 == a.size)=true
 ·rw [if_pos d2]; exact wpS_pure (pP.r _ _ (I6.lastA X.ha X.hb hl (by simpa using d2)))
 rw [if_neg d2]
 have d2':¬ i + 1 + 1=a.size:=by simpa using d2
 split
 ·exact wpS_pure (pP.d _ _ _ _ ⟨I6,by omega,h2⟩ (by omega))
 ·exact wpS_pure (pP.y _ _ _ _ ⟨I6,by omega,h2⟩ (by omega))
theorem segB_ok (X:MCx prog w A s κ lt S a b) (hk:kindOf st=κ) (hl:∀ x ∈ a.toList.drop (a.size - 1),∀ y ∈ b.toList,lt x y=false) (pP:LoP lt a b n st P) (I:MI lt a b o i j) (h1:i + 1 < a.size) (h2:j < b.size) (hn:n<=i + j) {y:Keyed} (ey:b[j]?=some y) (Z:∀ z ∈ a.toList.drop i,lt z y=false) :
  wpS (model prog w) A E s (segB a b o i j m p r) P st:=by
 unfold segB
 refine wpS_bind (elem_ok ey ?_)
 have I4:=I.pushB X.hb ey Z
 by_cases d1:(j + 1 == b.size)=true
 ·rw [if_pos d1]; exact wpS_pure (pP.r _ _ (I4.done X.ha X.hb (.inr (by simp at d1; omega))))
 rw [if_neg d1]
 have d1':¬ j + 1=b.size:=by simpa using d1
 obtain ⟨v,ev,sv⟩:=X.ga i (by omega)
 have dA:=drop_at ev
 have pA:=srt_drop X.ha i
 rw [dA] at pA
 refine wpS_bind (elem_ok ev (wpS_bind ?_))
 refine gallop_ok (B:=fun n=>lt (b[j + 1 + n]?.getD default) v) X.h hk sv (by omega) (fun n hn=>?_) (fun n n' hii hi' hB=>?_) fun k hk1 hk2 hk3=>?_
 ·obtain ⟨x,ex,sx⟩:=X.gb (j + 1 + n) (by omega)
  refine ⟨x,ex,sx,?_⟩
  simp only [ex]; rfl
 ·obtain ⟨x,ex,sx⟩:=X.gb (j + 1 + n) (by omega)
  obtain ⟨x',ex',sx'⟩:=X.gb (j + 1 + n') (by omega)
  simp only [ex,ex',Option.getD_some] at hB ⊢
  cases hx:lt x v with
  | true=>rfl
  | false=>rw [X.L.tr hx (srt_at X.L X.hb (by omega) ex ex')] at hB; cases hB
 have I5:MI lt a b (o.push y++b.extract (j + 1) (j + 1 + k)) i (j + 1 + k):=I4.runB X.hb k (by omega) fun m hm z hz u hu=>by
  have:=hk2 m hm
  simp only [hz,Option.getD_some] at this
  rw [dA] at hu
  exact head_le X.L pA (X.L.as this) u hu
 have Z5:∀ z ∈ b.toList.drop (j + 1 + k),lt z v=false:=fun z hz=>by
  obtain ⟨n,hn,rfl⟩:=List.getElem_of_mem hz
  rw [List.length_drop,Array.length_toList] at hn
  have:=hk3 (k + n) (by omega) (by omega)
  rw [Array.getElem?_eq_getElem (show j + 1 + (k + n) < b.size by omega)] at this
  simp only [Option.getD_some] at this
  rw [List.getElem_drop]
  simp only [Nat.add_assoc,Array.getElem_toList] at this ⊢
  exact this
 dsimp only
 by_cases hk0:k > 0
 ·rw [if_pos hk0]
  by_cases c1:(j + 1 + k == b.size)=true
  ·rw [if_pos c1]; exact wpS_pure (pP.r _ _ (I5.done X.ha X.hb (.inr (by simp at c1; omega))))
  ·rw [if_neg c1]
   have c1':¬ j + 1 + k=b.size:=by simpa using c1
   exact segC_ok X hl pP I5 h1 (by omega) (by omega) ev Z5
 ·rw [if_neg hk0]
  obtain rfl:k=0:=by omega
  exact segC_ok X hl pP I4 h1 (by omega) (by omega) ev Z5
theorem segA_ok (X:MCx prog w A s κ lt S a b) (hk:kindOf st=κ) (hl:∀ x ∈ a.toList.drop (a.size - 1),∀ y ∈ b.toList,lt x y=false) (pP:LoP lt a b n st P) (I:MI lt a b o i j) (h1:i + 1 < a.size) (h2:j < b.size) (hn:n<=i + j) :
  wpS (model prog w) A E s (segA a b o i j m p r) P st:=by
 unfold segA
 obtain ⟨y,ey,sy⟩:=X.gb j h2
 have dB:=drop_at ey
 have pB:=srt_drop X.hb j
 rw [dB] at pB
 refine wpS_bind (elem_ok ey (wpS_bind ?_))
 refine gallop_ok (B:=fun n=>!lt y (a[i + n]?.getD default)) X.h hk sy (by omega) (fun n hn=>?_) (fun n n' hii hi' hB=>?_) fun k hk1 hk2 hk3=>?_
 ·obtain ⟨x,ex,sx⟩:=X.ga (i + n) (by omega)
  refine ⟨x,ex,sx,?_⟩
  simp only [ex]; rfl
 ·obtain ⟨x,ex,sx⟩:=X.ga (i + n) (by omega)
  obtain ⟨x',ex',sx'⟩:=X.ga (i + n') (by omega)
  simp only [ex,ex',Option.getD_some,Bool.not_eq_true'] at hB ⊢
  exact X.L.tr (srt_at X.L X.ha (by omega) ex ex') hB
 have I3:MI lt a b (o++a.extract i (i + k)) (i + k) j:=I.runA X.ha k (by omega) fun m hm z hz v hv=>by
  have:=hk2 m hm
  simp only [hz,Option.getD_some,Bool.not_eq_true'] at this
  rw [dB] at hv
  exact head_le X.L pB this v hv
 have Z3:∀ z ∈ a.toList.drop (i + k),lt z y=false:=fun z hz=>by
  obtain ⟨n,hn,rfl⟩:=List.getElem_of_mem hz
  rw [List.length_drop,Array.length_toList] at hn
  have:=hk3 (k + n) (by omega) (by omega)
  rw [Array.getElem?_eq_getElem (show i + (k + n) < a.size by omega)] at this
  simp only [Option.getD_some,Bool.not_eq_false'] at this
  rw [List.getElem_drop]
  simp only [Nat.add_assoc,Array.getElem_toList]
  exact X.L.as this
 dsimp only
 by_cases hk0:k > 0
 ·rw [if_pos hk0]
  by_cases c1:(i + k + 1 == a.size)=true
  ·rw [if_pos c1]; exact wpS_pure (pP.r _ _ (I3.lastA X.ha X.hb hl (by simpa using c1)))
  rw [if_neg c1]
  have c1':¬ i + k + 1=a.size:=by simpa using c1
  by_cases c2:(i + k == a.size)=true
  ·rw [if_pos c2]; exact wpS_pure (pP.r _ _ (I3.done X.ha X.hb (.inl (by simp at c2; omega))))
  rw [if_neg c2]
  have c2':¬ i + k=a.size:=by simpa using c2
  exact segB_ok X hk hl pP I3 (by omega) h2 (by omega) ey Z3
 ·rw [if_neg hk0]
  obtain rfl:k=0:=by omega
  exact segB_ok X hk hl pP I h1 h2 (by omega) ey Z3
theorem mergeLo_ok {st:SortSt} {a b:Array Keyed} {Q:Array Keyed->SortSt->Prop} (L:LtK lt) (h:AnsK prog w A s κ lt S) (hk:kindOf st=κ) (sa:∀ x ∈ a.toList,S x) (sb:∀ x ∈ b.toList,S x) (ha:SrtL lt a.toList) (hb:SrtL lt b.toList)
  (a0:0 < a.size) (b0:0 < b.size) (hf:∀ x y,a[0]?=some x->b[0]?=some y->lt y x=true) (hl:∀ x ∈ a.toList.drop (a.size - 1),∀ y ∈ b.toList,lt x y=false)
  (q:∀ g out,Fine lt a b out->Q out (stG st g)):wpS (model prog w) A E s (mergeLo' a b) Q st:=by
 have ga:∀ i,i < a.size->∃ x,a[i]?=some x/\S x:=fun i hi=>⟨a[i],Array.getElem?_eq_getElem hi,sa _ (by simp)⟩
 have gb:∀ i,i < b.size->∃ x,b[i]?=some x/\S x:=fun i hi=>⟨b[i],Array.getElem?_eq_getElem hi,sb _ (by simp)⟩
 have X:MCx prog w A s κ lt S a b:=⟨L,h,ga,gb,ha,hb⟩
 refine wpS_bind (wpS_lift (wpAny_rule ⟨rfl,?_⟩))
 obtain ⟨x0,ex0,_⟩:=ga 0 a0
 obtain ⟨y0,ey0,_⟩:=gb 0 b0
 refine wpS_bind (elem_ok ey0 ?_)
 have I0:MI lt a b #[y0] 0 1:=by
  have I:MI lt a b #[] 0 0:=⟨List.Pairwise.nil,fun x hx=>by simp at hx,by simp⟩
  refine I.pushB hb ey0 fun z hz=>?_
  have d:=drop_at ex0
  have sd:=srt_drop ha 0
  rw [d] at sd hz
  exact head_le L sd (L.as (hf _ _ ex0 ey0)) z hz
 dsimp only
 by_cases e1:(1 == b.size)=true
 ·rw [if_pos e1]
  exact wpS_pure (q _ _ (I0.done ha hb (.inr (by simp at e1; omega))))
 rw [if_neg e1]
 by_cases e2:(0 + 1 == a.size)=true
 ·rw [if_pos e2]
  exact wpS_pure (q _ _ (I0.lastA ha hb hl (by simpa using e2)))
 rw [if_neg e2]
 have hb1:1 < b.size:=by
  have:¬ 1=b.size:=by simpa using e1
  omega
 have ha1:0 + 1 < a.size:=by
  have:¬ 0 + 1=a.size:=by simpa using e2
  omega
 refine wpS_bind (wpS_get ?_)
 refine wpS_bind (wpS_mono (wpS_forRange (I:=fun x c st'=>∃ g o i j m,st'=stG st g/\c=(none,o,i,j,m)/\Mid lt a b o i j/\x<=i + j)
  (Q:=fun c st'=>∃ g r z,st'=stG st g/\c=(some r,z)/\Fine lt a b r) ?_ ?_ ⟨_,_,_,_,_,rfl,rfl,⟨I0,ha1,hb1⟩,by omega⟩) ?_)
 ·rintro x c st' _ hx ⟨g,o,i,j,m,rfl,rfl,hM,hc⟩
  dsimp only
  -- one by one
  refine wpS_bind (wpS_mono (wpS_forRange (I:=fun x c st'=>∃ o' i' j' ac bc,st'=stG st g/\c=(none,o',i',j',ac,bc)/\Mid lt a b o' i' j'/\i + j + x<=i' + j')
   (Q:=fun c st'=>st'=stG st g/\((∃ r z,c=(some r,z)/\Fine lt a b r)\/∃ o' i' j' ac bc,c=(none,o',i',j',ac,bc)/\Mid lt a b o' i' j'/\i + j + 1<=i' + j')) ?_ ?_ ⟨_,_,_,_,_,rfl,rfl,hM,by omega⟩) ?_)
  ·rintro x c st' _ hx ⟨o',i',j',ac,bc,rfl,rfl,⟨hI,h1,h2⟩,hc⟩
   dsimp only
   obtain ⟨y,ey,sy⟩:=gb j' h2
   obtain ⟨z,ez,sz⟩:=ga i' (by omega)
   refine wpS_bind (elem_ok ey (wpS_bind (elem_ok ez (wpS_bind (ltk_ok h hk sy sz ?_)))))
   have dA:=drop_at ez
   have dB:=drop_at ey
   have pA:=srt_drop ha i'
   have pB:=srt_drop hb j'
   rw [dA] at pA
   rw [dB] at pB
   cases hw:lt y z with
   | true =>
    have I':=hI.pushB hb ey (by rw [dA]; exact head_le L pA (L.as hw))
    refine wpS_bind (elem_ok ey ?_)
    (try dsimp only)
    by_cases c1:(j' + 1 == b.size)=true
    ·rw [if_pos c1]; exact wpS_pure ⟨rfl,.inl ⟨_,_,rfl,I'.done ha hb (.inr (by simp at c1; omega))⟩⟩
    ·rw [if_neg c1]
     have c1':¬ j' + 1=b.size:=by simpa using c1
     have hM':Mid lt a b (o'.push y) i' (j' + 1):=⟨I',h1,by omega⟩
     by_cases c2:bc + 1 ≥ m
     ·rw [if_pos c2]; exact wpS_pure ⟨rfl,.inr ⟨_,_,_,_,_,rfl,hM',by omega⟩⟩
     ·rw [if_neg c2]; exact wpS_pure ⟨_,_,_,_,_,rfl,rfl,hM',by omega⟩
   | false =>
    have I':=hI.pushA ha ez (by rw [dB]; exact head_le L pB hw)
    refine wpS_bind (elem_ok ez ?_)
    (try dsimp only)
    by_cases c1:(i' + 1 + 1 == a.size)=true
    ·rw [if_pos c1]; exact wpS_pure ⟨rfl,.inl ⟨_,_,rfl,I'.lastA ha hb hl (by simpa using c1)⟩⟩
    ·rw [if_neg c1]
     have c1':¬ i' + 1 + 1=a.size:=by simpa using c1
     have hM':Mid lt a b (o'.push z) (i' + 1) j':=⟨I',by omega,h2⟩
     by_cases c2:ac + 1 ≥ m
     ·rw [if_pos c2]; exact wpS_pure ⟨rfl,.inr ⟨_,_,_,_,_,rfl,hM',by omega⟩⟩
     ·rw [if_neg c2]; exact wpS_pure ⟨_,_,_,_,_,rfl,rfl,hM',by omega⟩
  ·rintro c st' ⟨o',i',j',ac,bc,rfl,rfl,hM',hc⟩
   exact ⟨rfl,.inr ⟨_,_,_,_,_,rfl,hM',by omega⟩⟩
  ·rintro c st' ⟨rfl,⟨r,z,rfl,hr⟩ | ⟨o',i',j',ac,bc,rfl,hM',hc'⟩⟩
   ·exact wpS_pure ⟨_,_,_,rfl,rfl,hr⟩
   ·dsimp only
    -- by leaps
    refine wpS_bind (wpS_lift (wpAny_rule ⟨rfl,?_⟩))
    refine wpS_bind (wpS_mono (wpS_forRange (I:=fun x c st'=>∃ g o2 i2 j2 m ac bc,st'=stG st g/\c=(none,o2,i2,j2,m,ac,bc)/\Mid lt a b o2 i2 j2/\i' + j'<=i2 + j2)
     (Q:=fun c st'=>∃ g,st'=stG st g/\((∃ r z,c=(some r,z)/\Fine lt a b r)\/∃ o2 i2 j2 z,c=(none,o2,i2,j2,z)/\Mid lt a b o2 i2 j2/\i' + j'<=i2 + j2)) ?_ ?_ ⟨_,_,_,_,_,_,_,rfl,rfl,hM',Nat.le_refl _⟩) ?_)
    ·rintro x c st' _ hx ⟨g,o2,i2,j2,m2,ac,bc,rfl,rfl,⟨hI,h1,h2⟩,hc2⟩
     dsimp only
     by_cases cm:m2 > 1
     ·rw [if_pos cm]
      refine wpS_bind (wpS_modify ?_)
      refine segA_ok (st:=stG st (m2 - 1)) (o:=o2) (i:=i2) (j:=j2) (m:=m2 - 1) (p:=ac) (r:=bc) (n:=i' + j') X hk hl ⟨?_,?_,?_⟩ hI h1 h2 hc2
      ·exact fun r z hr=>⟨_,rfl,.inl ⟨_,_,rfl,hr⟩⟩
      ·exact fun o i j z hM hn=>⟨_,rfl,.inr ⟨_,_,_,_,rfl,hM,hn⟩⟩
      ·exact fun o i j z hM hn=>⟨_,_,_,_,_,_,_,rfl,rfl,hM,hn⟩
     ·rw [if_neg cm]
      refine wpS_bind (wpS_modify ?_)
      refine segA_ok (st:=stG st (m2)) (o:=o2) (i:=i2) (j:=j2) (m:=m2) (p:=ac) (r:=bc) (n:=i' + j') X hk hl ⟨?_,?_,?_⟩ hI h1 h2 hc2
      ·exact fun r z hr=>⟨_,rfl,.inl ⟨_,_,rfl,hr⟩⟩
      ·exact fun o i j z hM hn=>⟨_,rfl,.inr ⟨_,_,_,_,rfl,hM,hn⟩⟩
      ·exact fun o i j z hM hn=>⟨_,_,_,_,_,_,_,rfl,rfl,hM,hn⟩
    ·rintro c st' ⟨g,o2,i2,j2,m,ac,bc,rfl,rfl,hM2,hc2⟩
     exact ⟨_,rfl,.inr ⟨_,_,_,_,rfl,hM2,hc2⟩⟩
    ·rintro c st' ⟨g,rfl,⟨r,z,rfl,hr⟩ | ⟨o2,i2,j2,z,rfl,hM2,hc2⟩⟩
     ·exact wpS_pure ⟨_,_,_,rfl,rfl,hr⟩
     ·exact wpS_bind (wpS_modify (wpS_pure ⟨_,_,_,_,_,rfl,rfl,hM2,by show x + 1<=i2 + j2; omega⟩))
 ·rintro c st' ⟨g,o,i,j,m,rfl,rfl,⟨_,h1,h2⟩,hc⟩
  exfalso
  have:max 0 (a.size + b.size)<=i + j:=hc
  omega
 ·rintro c st' ⟨g,r,z,rfl,rfl,hr⟩
  exact wpS_pure (q _ _ hr)
end
structure HI (lt:Keyed->Keyed->Bool) (a b out:Array Keyed) (i j:Nat):Prop where
 asc:SrtL lt out.toList.reverse
 hgh:∀ x ∈ out.toList,∀ y,y ∈ a.toList.take i\/y ∈ b.toList.take j->lt x y=false
 prm:(a.toList.take i++(b.toList.take j++out.toList.reverse)).Perm (a.toList++b.toList)
section
variable {lt:Keyed->Keyed->Bool} {a b out:Array Keyed} {i j:Nat}
theorem last_le (L:LtK lt) {x y:Keyed} {l:List Keyed} (h:SrtL lt (l++[x])) (e:lt y x=false):∀ z ∈ l++[x],lt y z=false:=fun z hz=>by
 rcases List.mem_append.mp hz with hz | hz
 ·exact L.tr ((List.pairwise_append.mp h).2.2 z hz x List.mem_cons_self) e
 ·cases List.mem_singleton.mp hz; exact e
theorem take_at {arr:Array Keyed} {i:Nat} {x:Keyed} (h:arr[i]?=some x):arr.toList.take (i + 1)=arr.toList.take i++[x]:=by
 obtain ⟨hi,rfl⟩:=Array.getElem?_eq_some_iff.mp h
 rw [List.take_succ_eq_append_getElem (by simpa using hi)]
 simp
theorem srt_take {arr:Array Keyed} (h:SrtL lt arr.toList) (i:Nat):SrtL lt (arr.toList.take i):=List.Pairwise.sublist (List.take_sublist i _) h
theorem HI.pushA (I:HI lt a b out (i + 1) j) (ha:SrtL lt a.toList) {y:Keyed} (e:a[i]?=some y) (h:∀ z ∈ b.toList.take j,lt y z=false):HI lt a b (out.push y) i j:=by
 have d:=take_at e
 have sa:=srt_take ha (i + 1)
 rw [d] at sa
 refine ⟨?_,fun x hx z hz=>?_,?_⟩
 ·rw [Array.toList_push,List.reverse_append]
  refine List.pairwise_cons.mpr ⟨fun x hx=>?_,I.asc⟩
  exact I.hgh x (List.mem_reverse.mp hx) _ (.inl (by rw [d]; exact List.mem_append_right _ List.mem_cons_self))
 ·rw [Array.toList_push] at hx
  rcases List.mem_append.mp hx with hx | hx
  ·exact I.hgh x hx z (hz.imp (fun q=>by rw [d]; exact List.mem_append_left _ q) id)
  ·cases List.mem_singleton.mp hx
   rcases hz with hz | hz
   ·exact (List.pairwise_append.mp sa).2.2 z hz _ List.mem_cons_self
   ·exact h z hz
 ·refine List.Perm.trans ?_ I.prm
  rw [Array.toList_push,d,List.append_assoc,List.reverse_append]
  refine List.Perm.append_left _ ?_
  exact List.perm_middle
theorem HI.pushB (I:HI lt a b out i (j + 1)) (hb:SrtL lt b.toList) {y:Keyed} (e:b[j]?=some y) (h:∀ z ∈ a.toList.take i,lt y z=false):HI lt a b (out.push y) i j:=by
 have d:=take_at e
 have sb:=srt_take hb (j + 1)
 rw [d] at sb
 refine ⟨?_,fun x hx z hz=>?_,?_⟩
 ·rw [Array.toList_push,List.reverse_append]
  refine List.pairwise_cons.mpr ⟨fun x hx=>?_,I.asc⟩
  exact I.hgh x (List.mem_reverse.mp hx) _ (.inr (by rw [d]; exact List.mem_append_right _ List.mem_cons_self))
 ·rw [Array.toList_push] at hx
  rcases List.mem_append.mp hx with hx | hx
  ·exact I.hgh x hx z (hz.imp id fun q=>by rw [d]; exact List.mem_append_left _ q)
  ·cases List.mem_singleton.mp hx
   rcases hz with hz | hz
   ·exact h z hz
   ·exact (List.pairwise_append.mp sb).2.2 z hz _ List.mem_cons_self
 ·refine List.Perm.trans ?_ I.prm
  rw [Array.toList_push,d,List.reverse_append,List.append_assoc]
  exact List.Perm.refl _
theorem ext_rev {arr:Array Keyed} {i k:Nat} (h:i + k < arr.size) (o:Array Keyed):o++(arr.extract i (i + k + 1)).reverse=o.push arr[i + k]++(arr.extract i (i + k)).reverse:=by
 have e:arr.extract i (i + k + 1)=(arr.extract i (i + k)).push arr[i + k]:=ext_push h
 rw [e]
 refine Array.toList_inj.mp ?_
 simp only [Array.toList_append,Array.toList_reverse,Array.toList_push,List.reverse_append,List.reverse_cons,List.reverse_nil,List.nil_append,List.append_assoc]
theorem HI.runA {m:Nat} (ha:SrtL lt a.toList):∀ (k:Nat) {out:Array Keyed},HI lt a b out (m + k) j->m + k<=a.size->(∀ n,m<=n->n < m + k->∀ y,a[n]?=some y->∀ z ∈ b.toList.take j,lt y z=false)->HI lt a b (out++(a.extract m (m + k)).reverse) m j
 | 0,out,I,_,_=>by rw [ext_nil]; simpa using I
 | k + 1,out,I,hk,h=>by
  have e:a[m + k]?=some a[m + k]:=Array.getElem?_eq_getElem (by omega)
  have I':=HI.pushA (i:=m + k) I ha e (h (m + k) (by omega) (by omega) _ e)
  have:=HI.runA ha k I' (by omega) fun n h1 h2=>h n h1 (by omega)
  rw [<-ext_rev (by omega)] at this
  exact this
theorem HI.runB {m:Nat} (hb:SrtL lt b.toList):∀ (k:Nat) {out:Array Keyed},HI lt a b out i (m + k)->m + k<=b.size->(∀ n,m<=n->n < m + k->∀ y,b[n]?=some y->∀ z ∈ a.toList.take i,lt y z=false)->HI lt a b (out++(b.extract m (m + k)).reverse) i m
 | 0,out,I,_,_=>by rw [ext_nil]; simpa using I
 | k + 1,out,I,hk,h=>by
  have e:b[m + k]?=some b[m + k]:=Array.getElem?_eq_getElem (by omega)
  have I':=HI.pushB (j:=m + k) I hb e (h (m + k) (by omega) (by omega) _ e)
  have:=HI.runB hb k I' (by omega) fun n h1 h2=>h n h1 (by omega)
  rw [<-ext_rev (by omega)] at this
  exact this
theorem ext_take (arr:Array Keyed) (i:Nat):(arr.extract 0 i).toList=arr.toList.take i:=by
 rw [Array.toList_extract,List.extract_eq_take_drop]
 simp
theorem HI.done (I:HI lt a b out i j) (ha:SrtL lt a.toList) (hb:SrtL lt b.toList) (h:i=0\/j=0):Fine lt a b (a.extract 0 i++b.extract 0 j++out.reverse):=by
 unfold Fine
 rw [Array.toList_append,Array.toList_append,ext_take,ext_take,Array.toList_reverse,List.append_assoc]
 refine ⟨List.pairwise_append.mpr ⟨srt_take ha i,List.pairwise_append.mpr ⟨srt_take hb j,I.asc,fun x hx y hy=>I.hgh y (List.mem_reverse.mp hy) x (.inr hx)⟩,fun x hx y hy=>?_⟩,I.prm⟩
 rcases List.mem_append.mp hy with hy | hy
 ·rcases h with rfl | rfl
  ·simp at hx
  ·simp at hy
 ·exact I.hgh y (List.mem_reverse.mp hy) x (.inl hx)
theorem HI.firstB (I:HI lt a b out i j) (ha:SrtL lt a.toList) (hb:SrtL lt b.toList) (hf:∀ x ∈ b.toList.take 1,∀ y ∈ a.toList,lt y x=false) (h:j=1):Fine lt a b (b.extract 0 j++a.extract 0 i++out.reverse):=by
 unfold Fine
 subst h
 rw [Array.toList_append,Array.toList_append,ext_take,ext_take,Array.toList_reverse,List.append_assoc]
 refine ⟨List.pairwise_append.mpr ⟨srt_take hb 1,List.pairwise_append.mpr ⟨srt_take ha i,I.asc,fun x hx y hy=>I.hgh y (List.mem_reverse.mp hy) x (.inl hx)⟩,fun x hx y hy=>?_⟩,?_⟩
 ·rcases List.mem_append.mp hy with hy | hy
  ·exact hf x hx y (List.mem_of_mem_take hy)
  ·exact I.hgh y (List.mem_reverse.mp hy) x (.inr hx)
 ·refine List.Perm.trans ?_ I.prm
  rw [<-List.append_assoc,<-List.append_assoc]
  exact List.Perm.append_right _ List.perm_append_comm
end
noncomputable def MidH (lt:Keyed->Keyed->Bool) (a b o:Array Keyed) (i j:Nat):Prop:=HI lt a b o i j/\0 < i/\i<=a.size/\1 < j/\j<=b.size
noncomputable abbrev HiT:Type:=Option (Array Keyed) × Nat × Nat × Array Keyed × Nat × Nat × Nat
noncomputable def higC (a b o:Array Keyed) (i j m p r:Nat):StateT SortSt Sem (ForInStep HiT) :=
 elem' a (i - 1) >>= fun v=>if (i - 1 == 0)=true then pure (.done (some (a.extract 0 (i - 1)++b.extract 0 j++(o.push v).reverse),i - 1,j,o.push v,m,p,r))
  else if (decide (p < 7) && decide (r < 7))=true then pure (.done (none,i - 1,j,o.push v,m,p,r)) else pure (.yield (none,i - 1,j,o.push v,m,p,r))
noncomputable def higB (a b o:Array Keyed) (i j m p r:Nat):StateT SortSt Sem (ForInStep HiT) :=
 elem' b (j - 1) >>= fun y=>if (j - 1 == 1)=true then pure (.done (some (b.extract 0 (j - 1)++a.extract 0 i++(o.push y).reverse),i,j - 1,o.push y,m,p,r))
  else elem' a (i - 1) >>= fun v=>gallop' true v b 0 (j - 1) (j - 1 - 1) >>= fun t=>match t with
   | some k=>if j - 1 - k > 0 then (if (k == 1)=true then pure (.done (some (b.extract 0 k++a.extract 0 i++(o.push y++(b.extract k (j - 1)).reverse).reverse),i,k,o.push y++(b.extract k (j - 1)).reverse,m,p,j - 1 - k))
     else if (k == 0)=true then pure (.done (some (a.extract 0 i++b.extract 0 k++(o.push y++(b.extract k (j - 1)).reverse).reverse),i,k,o.push y++(b.extract k (j - 1)).reverse,m,p,j - 1 - k))
     else higC a b (o.push y++(b.extract k (j - 1)).reverse) i k m p (j - 1 - k)) else higC a b (o.push y) i (j - 1) m p (j - 1 - k)
   | _=>pure (.done (some (a.extract 0 i++b.extract 0 (j - 1)++(o.push y).reverse),i,j - 1,o.push y,m,p,r))
noncomputable def higA (a b o:Array Keyed) (i j m p r:Nat):StateT SortSt Sem (ForInStep HiT) :=
 elem' b (j - 1) >>= fun y=>gallop' false y a 0 i (i - 1) >>= fun t=>match t with
  | some k=>if i - k > 0 then (if (k == 0)=true then pure (.done (some (a.extract 0 k++b.extract 0 j++(o++(a.extract k i).reverse).reverse),k,j,o++(a.extract k i).reverse,m,i - k,r))
    else higB a b (o++(a.extract k i).reverse) k j m (i - k) r) else higB a b o i j m (i - k) r
  | _=>pure (.done (some (a.extract 0 i++b.extract 0 j++o.reverse),i,j,o,m,p,r))
structure HiP (lt:Keyed->Keyed->Bool) (a b:Array Keyed) (n:Nat) (st:SortSt) (P:ForInStep HiT->SortSt->Prop):Prop where
 r:∀ r z,Fine lt a b r->P (.done (some r,z)) st
 d:∀ o i j z,MidH lt a b o i j->i + j<=n->P (.done (none,i,j,o,z)) st
 y:∀ o i j z,MidH lt a b o i j->i + j<=n->P (.yield (none,i,j,o,z)) st
section
variable {prog:Program} {w:World} {A:Around} {E:Value->Shared->Prop} {s:Shared} {lt:Keyed->Keyed->Bool} {κ:SortKind} {S:Keyed->Prop} {a b o:Array Keyed} {i j m p r n:Nat} {st:SortSt} {P:ForInStep HiT->SortSt->Prop}
theorem higC_ok (X:MCx prog w A s κ lt S a b) (pP:HiP lt a b n st P) (I:HI lt a b o i j) (h1:0 < i) (h1':i<=a.size) (h2:1 < j) (h2':j<=b.size) (hn:i + j<=n) {v:Keyed} (ev:a[i - 1]?=some v) (Z:∀ z ∈ b.toList.take j,lt v z=false) :
  wpS (model prog w) A E s (higC a b o i j m p r) P st:=by
 unfold higC
 refine wpS_bind (elem_ok ev ?_)
 have I6:=HI.pushA (i:=i - 1) (by rw [show i - 1 + 1=i by omega]; exact I) X.ha ev Z
 by_cases d2:(i - 1 == 0)=true
 ·rw [if_pos d2]; exact wpS_pure (pP.r _ _ (I6.done X.ha X.hb (.inl (by simpa using d2))))
 rw [if_neg d2]
 have d2':¬ i - 1=0:=by simpa using d2
 split
 ·exact wpS_pure (pP.d _ _ _ _ ⟨I6,by omega,by omega,h2,h2'⟩ (by omega))
 ·exact wpS_pure (pP.y _ _ _ _ ⟨I6,by omega,by omega,h2,h2'⟩ (by omega))
theorem higB_ok (X:MCx prog w A s κ lt S a b) (hk:kindOf st=κ) (hf:∀ x ∈ b.toList.take 1,∀ y ∈ a.toList,lt y x=false) (pP:HiP lt a b n st P) (I:HI lt a b o i j) (h1:0 < i) (h1':i<=a.size) (h2:1 < j) (h2':j<=b.size) (hn:i + j<=n) {y:Keyed} (ey:b[j - 1]?=some y) (Z:∀ z ∈ a.toList.take i,lt y z=false) :
  wpS (model prog w) A E s (higB a b o i j m p r) P st:=by
 unfold higB
 refine wpS_bind (elem_ok ey ?_)
 have I4:=HI.pushB (j:=j - 1) (by rw [show j - 1 + 1=j by omega]; exact I) X.hb ey Z
 by_cases d1:(j - 1 == 1)=true
 ·rw [if_pos d1]; exact wpS_pure (pP.r _ _ (I4.firstB X.ha X.hb hf (by simpa using d1)))
 rw [if_neg d1]
 have d1':¬ j - 1=1:=by simpa using d1
 obtain ⟨v,ev,sv⟩:=X.ga (i - 1) (by omega)
 have dA:=take_at ev
 rw [show i - 1 + 1=i by omega] at dA
 have pA:=srt_take X.ha i
 rw [dA] at pA
 refine wpS_bind (elem_ok ev (wpS_bind ?_))
 refine gallop_ok (B:=fun n=>lt (b[n]?.getD default) v) X.h hk sv (by omega) (fun n hn=>?_) (fun n n' hii hi' hB=>?_) fun k hk1 hk2 hk3=>?_
 ·obtain ⟨x,ex,sx⟩:=X.gb n (by omega)
  refine ⟨x,by rw [Nat.zero_add]; exact ex,sx,?_⟩
  simp only [ex]; rfl
 ·obtain ⟨x,ex,sx⟩:=X.gb n (by omega)
  obtain ⟨x',ex',sx'⟩:=X.gb n' (by omega)
  simp only [ex,ex',Option.getD_some] at hB ⊢
  cases hx:lt x v with
  | true=>rfl
  | false=>rw [X.L.tr hx (srt_at X.L X.hb (by omega) ex ex')] at hB; cases hB
 have I5:HI lt a b (o.push y++(b.extract k (j - 1)).reverse) i k:=by
  have:=HI.runB (m:=k) X.hb (j - 1 - k) (out:=o.push y) (by rw [show k + (j - 1 - k)=j - 1 by omega]; exact I4) (by omega) fun n q1 q2 z hz u hu=>by
   have:=hk3 n q1 (by omega)
   simp only [hz,Option.getD_some] at this
   rw [dA] at hu
   exact last_le X.L pA this u hu
  rwa [show k + (j - 1 - k)=j - 1 by omega] at this
 have Z5:∀ z ∈ b.toList.take k,lt v z=false:=fun z hz=>by
  obtain ⟨n,hn,rfl⟩:=List.getElem_of_mem hz
  rw [List.length_take,Array.length_toList] at hn
  have:=hk2 n (by omega)
  rw [Array.getElem?_eq_getElem (show n < b.size by omega)] at this
  simp only [Option.getD_some] at this
  rw [List.getElem_take]
  simp only [Array.getElem_toList]
  exact X.L.as this
 dsimp only
 by_cases hk0:j - 1 - k > 0
 ·rw [if_pos hk0]
  by_cases c1:(k == 1)=true
  ·rw [if_pos c1]; exact wpS_pure (pP.r _ _ (I5.firstB X.ha X.hb hf (by simpa using c1)))
  rw [if_neg c1]
  have c1':¬ k=1:=by simpa using c1
  by_cases c2:(k == 0)=true
  ·rw [if_pos c2]; exact wpS_pure (pP.r _ _ (I5.done X.ha X.hb (.inr (by simpa using c2))))
  rw [if_neg c2]
  have c2':¬ k=0:=by simpa using c2
  exact higC_ok X pP I5 h1 h1' (by omega) (by omega) (by omega) ev Z5
 ·rw [if_neg hk0]
  obtain rfl:k=j - 1:=by omega
  exact higC_ok X pP I4 h1 h1' (by omega) (by omega) (by omega) ev Z5
theorem higA_ok (X:MCx prog w A s κ lt S a b) (hk:kindOf st=κ) (hf:∀ x ∈ b.toList.take 1,∀ y ∈ a.toList,lt y x=false) (pP:HiP lt a b n st P) (I:HI lt a b o i j) (h1:0 < i) (h1':i<=a.size) (h2:1 < j) (h2':j<=b.size) (hn:i + j<=n) :
  wpS (model prog w) A E s (higA a b o i j m p r) P st:=by
 unfold higA
 obtain ⟨y,ey,sy⟩:=X.gb (j - 1) (by omega)
 have dB:=take_at ey
 rw [show j - 1 + 1=j by omega] at dB
 have pB:=srt_take X.hb j
 rw [dB] at pB
 refine wpS_bind (elem_ok ey (wpS_bind ?_))
 refine gallop_ok (B:=fun n=>!lt y (a[n]?.getD default)) X.h hk sy (by omega) (fun n hn=>?_) (fun n n' hii hi' hB=>?_) fun k hk1 hk2 hk3=>?_
 ·obtain ⟨x,ex,sx⟩:=X.ga n (by omega)
  refine ⟨x,by rw [Nat.zero_add]; exact ex,sx,?_⟩
  simp only [ex]; rfl
 ·obtain ⟨x,ex,sx⟩:=X.ga n (by omega)
  obtain ⟨x',ex',sx'⟩:=X.ga n' (by omega)
  simp only [ex,ex',Option.getD_some,Bool.not_eq_true'] at hB ⊢
  exact X.L.tr (srt_at X.L X.ha (by omega) ex ex') hB
 have I3:HI lt a b (o++(a.extract k i).reverse) k j:=by
  have:=HI.runA (m:=k) X.ha (i - k) (out:=o) (by rw [show k + (i - k)=i by omega]; exact I) (by omega) fun n q1 q2 z hz v hv=>by
   have:=hk3 n q1 (by omega)
   simp only [hz,Option.getD_some,Bool.not_eq_false'] at this
   rw [dB] at hv
   exact last_le X.L pB (X.L.as this) v hv
  rwa [show k + (i - k)=i by omega] at this
 have Z3:∀ z ∈ a.toList.take k,lt y z=false:=fun z hz=>by
  obtain ⟨n,hn,rfl⟩:=List.getElem_of_mem hz
  rw [List.length_take,Array.length_toList] at hn
  have:=hk2 n (by omega)
  rw [Array.getElem?_eq_getElem (show n < a.size by omega)] at this
  simp only [Option.getD_some,Bool.not_eq_true'] at this
  rw [List.getElem_take]
  simp only [Array.getElem_toList]
  exact this
 dsimp only
 by_cases hk0:i - k > 0
 ·rw [if_pos hk0]
  by_cases c1:(k == 0)=true
  ·rw [if_pos c1]; exact wpS_pure (pP.r _ _ (I3.done X.ha X.hb (.inl (by simpa using c1))))
  rw [if_neg c1]
  have c1':¬ k=0:=by simpa using c1
  exact higB_ok X hk hf pP I3 (by omega) (by omega) h2 h2' (by omega) ey Z3
 ·rw [if_neg hk0]
  obtain rfl:k=i:=by omega
  exact higB_ok X hk hf pP I h1 h1' h2 h2' (by omega) ey Z3
theorem mergeHi_ok {Q:Array Keyed->SortSt->Prop} (X:MCx prog w A s κ lt S a b) (hk:kindOf st=κ)
  (a0:0 < a.size) (b0:0 < b.size) (hf:∀ x ∈ b.toList.take 1,∀ y ∈ a.toList,lt y x=false) (hl:∀ x y,a[a.size - 1]?=some x->y ∈ b.toList->lt x y=false)
  (q:∀ g out,Fine lt a b out->Q out (stG st g)):wpS (model prog w) A E s (mergeHi' a b) Q st:=by
 refine wpS_bind (wpS_lift (wpAny_rule ⟨rfl,?_⟩))
 obtain ⟨x0,ex0,_⟩:=X.ga (a.size - 1) (by omega)
 refine wpS_bind (elem_ok ex0 ?_)
 have I0:HI lt a b #[x0] (a.size - 1) b.size:=by
  have I:HI lt a b #[] (a.size - 1 + 1) b.size:=⟨List.Pairwise.nil,fun x hx=>by simp at hx,by rw [show a.size - 1 + 1=a.size by omega,List.take_of_length_le (by simp),List.take_of_length_le (by simp)]; simp⟩
  exact I.pushA X.ha ex0 fun z hz=>hl _ _ ex0 (List.mem_of_mem_take hz)
 dsimp only
 by_cases e1:(a.size - 1 == 0)=true
 ·rw [if_pos e1]
  exact wpS_pure (q _ _ (I0.done X.ha X.hb (.inl (by simpa using e1))))
 rw [if_neg e1]
 by_cases e2:(b.size == 1)=true
 ·rw [if_pos e2]
  exact wpS_pure (q _ _ (I0.firstB X.ha X.hb hf (by simpa using e2)))
 rw [if_neg e2]
 have ha1:¬ a.size - 1=0:=by simpa using e1
 have hb1:¬ b.size=1:=by simpa using e2
 refine wpS_bind (wpS_get ?_)
 refine wpS_bind (wpS_mono (wpS_forRange (I:=fun x c st'=>∃ g o i j m,st'=stG st g/\c=(none,i,j,o,m)/\MidH lt a b o i j/\x + i + j<=a.size + b.size)
  (Q:=fun c st'=>∃ g r z,st'=stG st g/\c=(some r,z)/\Fine lt a b r) ?_ ?_ ⟨_,_,_,_,_,rfl,rfl,⟨I0,by omega,by omega,by omega,Nat.le_refl _⟩,by omega⟩) ?_)
 ·rintro x c st' _ hx ⟨g,o,i,j,m,rfl,rfl,hM,hc⟩
  dsimp only
  -- one by one
  refine wpS_bind (wpS_mono (wpS_forRange (I:=fun x c st'=>∃ o' i' j' ac bc,st'=stG st g/\c=(none,i',j',o',ac,bc)/\MidH lt a b o' i' j'/\i' + j' + x<=i + j)
   (Q:=fun c st'=>st'=stG st g/\((∃ r z,c=(some r,z)/\Fine lt a b r)\/∃ o' i' j' ac bc,c=(none,i',j',o',ac,bc)/\MidH lt a b o' i' j'/\i' + j' + 1<=i + j)) ?_ ?_ ⟨_,_,_,_,_,rfl,rfl,hM,by omega⟩) ?_)
  ·rintro x c st' _ hx ⟨o',i',j',ac,bc,rfl,rfl,⟨hI,h1,h1',h2,h2'⟩,hc⟩
   dsimp only
   obtain ⟨y,ey,sy⟩:=X.gb (j' - 1) (by omega)
   obtain ⟨z,ez,sz⟩:=X.ga (i' - 1) (by omega)
   refine wpS_bind (elem_ok ey (wpS_bind (elem_ok ez (wpS_bind (ltk_ok X.h hk sy sz ?_)))))
   have dA:=take_at ez
   have dB:=take_at ey
   rw [show i' - 1 + 1=i' by omega] at dA
   rw [show j' - 1 + 1=j' by omega] at dB
   have pA:=srt_take X.ha i'
   have pB:=srt_take X.hb j'
   rw [dA] at pA
   rw [dB] at pB
   cases hw:lt y z with
   | true =>
    have I':=HI.pushA (i:=i' - 1) (by rw [show i' - 1 + 1=i' by omega]; exact hI) X.ha ez (by rw [dB]; exact last_le X.L pB (X.L.as hw))
    refine wpS_bind (elem_ok ez ?_)
    (try dsimp only)
    by_cases c1:(i' - 1 == 0)=true
    ·rw [if_pos c1]; exact wpS_pure ⟨rfl,.inl ⟨_,_,rfl,I'.done X.ha X.hb (.inl (by simpa using c1))⟩⟩
    ·rw [if_neg c1]
     have c1':¬ i' - 1=0:=by simpa using c1
     have hM':MidH lt a b (o'.push z) (i' - 1) j':=⟨I',by omega,by omega,h2,h2'⟩
     by_cases c2:ac + 1 ≥ m
     ·rw [if_pos c2]; exact wpS_pure ⟨rfl,.inr ⟨_,_,_,_,_,rfl,hM',by omega⟩⟩
     ·rw [if_neg c2]; exact wpS_pure ⟨_,_,_,_,_,rfl,rfl,hM',by omega⟩
   | false =>
    have I':=HI.pushB (j:=j' - 1) (by rw [show j' - 1 + 1=j' by omega]; exact hI) X.hb ey (by rw [dA]; exact last_le X.L pA hw)
    refine wpS_bind (elem_ok ey ?_)
    (try dsimp only)
    by_cases c1:(j' - 1 == 1)=true
    ·rw [if_pos c1]; exact wpS_pure ⟨rfl,.inl ⟨_,_,rfl,I'.firstB X.ha X.hb hf (by simpa using c1)⟩⟩
    ·rw [if_neg c1]
     have c1':¬ j' - 1=1:=by simpa using c1
     have hM':MidH lt a b (o'.push y) i' (j' - 1):=⟨I',h1,h1',by omega,by omega⟩
     by_cases c2:bc + 1 ≥ m
     ·rw [if_pos c2]; exact wpS_pure ⟨rfl,.inr ⟨_,_,_,_,_,rfl,hM',by omega⟩⟩
     ·rw [if_neg c2]; exact wpS_pure ⟨_,_,_,_,_,rfl,rfl,hM',by omega⟩
  ·rintro c st' ⟨o',i',j',ac,bc,rfl,rfl,hM',hc⟩
   exact ⟨rfl,.inr ⟨_,_,_,_,_,rfl,hM',by omega⟩⟩
  ·rintro c st' ⟨rfl,⟨r,z,rfl,hr⟩ | ⟨o',i',j',ac,bc,rfl,hM',hc'⟩⟩
   ·exact wpS_pure ⟨_,_,_,rfl,rfl,hr⟩
   ·dsimp only
    -- by leaps
    refine wpS_bind (wpS_lift (wpAny_rule ⟨rfl,?_⟩))
    refine wpS_bind (wpS_mono (wpS_forRange (I:=fun x c st'=>∃ g o2 i2 j2 m ac bc,st'=stG st g/\c=(none,i2,j2,o2,m,ac,bc)/\MidH lt a b o2 i2 j2/\i2 + j2<=i' + j')
     (Q:=fun c st'=>∃ g,st'=stG st g/\((∃ r z,c=(some r,z)/\Fine lt a b r)\/∃ o2 i2 j2 z,c=(none,i2,j2,o2,z)/\MidH lt a b o2 i2 j2/\i2 + j2<=i' + j')) ?_ ?_ ⟨_,_,_,_,_,_,_,rfl,rfl,hM',Nat.le_refl _⟩) ?_)
    ·rintro x c st' _ hx ⟨g,o2,i2,j2,m2,ac,bc,rfl,rfl,⟨hI,h1,h1',h2,h2'⟩,hc2⟩
     dsimp only
     by_cases cm:m2 > 1
     ·rw [if_pos cm]
      refine wpS_bind (wpS_modify ?_)
      refine higA_ok (st:=stG st (m2 - 1)) (o:=o2) (i:=i2) (j:=j2) (m:=m2 - 1) (p:=ac) (r:=bc) (n:=i' + j') X hk hf ⟨?_,?_,?_⟩ hI h1 h1' h2 h2' hc2
      ·exact fun r z hr=>⟨_,rfl,.inl ⟨_,_,rfl,hr⟩⟩
      ·exact fun o i j z hM hn=>⟨_,rfl,.inr ⟨_,_,_,_,rfl,hM,hn⟩⟩
      ·exact fun o i j z hM hn=>⟨_,_,_,_,_,_,_,rfl,rfl,hM,hn⟩
     ·rw [if_neg cm]
      refine wpS_bind (wpS_modify ?_)
      refine higA_ok (st:=stG st m2) (o:=o2) (i:=i2) (j:=j2) (m:=m2) (p:=ac) (r:=bc) (n:=i' + j') X hk hf ⟨?_,?_,?_⟩ hI h1 h1' h2 h2' hc2
      ·exact fun r z hr=>⟨_,rfl,.inl ⟨_,_,rfl,hr⟩⟩
      ·exact fun o i j z hM hn=>⟨_,rfl,.inr ⟨_,_,_,_,rfl,hM,hn⟩⟩
      ·exact fun o i j z hM hn=>⟨_,_,_,_,_,_,_,rfl,rfl,hM,hn⟩
    ·rintro c st' ⟨g,o2,i2,j2,m,ac,bc,rfl,rfl,hM2,hc2⟩
     exact ⟨_,rfl,.inr ⟨_,_,_,_,rfl,hM2,hc2⟩⟩
    ·rintro c st' ⟨g,rfl,⟨r,z,rfl,hr⟩ | ⟨o2,i2,j2,z,rfl,hM2,hc2⟩⟩
     ·exact wpS_pure ⟨_,_,_,rfl,rfl,hr⟩
     ·exact wpS_bind (wpS_modify (wpS_pure ⟨_,_,_,_,_,rfl,rfl,hM2,by show x + 1 + i2 + j2<=a.size + b.size; omega⟩))
 ·rintro c st' ⟨g,o,i,j,m,rfl,rfl,⟨_,h1,_,h2,_⟩,hc⟩
  exfalso
  have:max 0 (a.size + b.size) + i + j<=a.size + b.size:=hc
  omega
 ·rintro c st' ⟨g,r,z,rfl,rfl,hr⟩
  exact wpS_pure (q _ _ hr)
end
theorem fold_set (sa:Nat):∀ (l:List Keyed) (d:Nat) (arr:Array Keyed),sa + d + l.length<=arr.size->((l.zipIdx d).foldl (fun a q=>a.setIfInBounds (sa + q.2) q.1) arr).toList=arr.toList.take (sa + d)++(l++arr.toList.drop (sa + d + l.length))
 | [],d,arr,_=>by simp
 | x :: l,d,arr,h=>by
  rw [List.length_cons] at h
  rw [List.zipIdx_cons,List.foldl_cons,fold_set sa l (d + 1) _ (by rw [Array.size_setIfInBounds]; omega)]
  dsimp only
  rw [Array.toList_setIfInBounds,List.drop_set_of_lt (by omega),show sa + (d + 1)=sa + d + 1 by omega,List.take_succ_eq_append_getElem (by simp; omega)]
  simp only [List.getElem_set_self,List.length_cons,List.append_assoc,List.cons_append,List.nil_append]
  rw [List.take_set_of_le (Nat.le_refl _),show sa + d + 1 + l.length=sa + d + (l.length + 1) by omega]
section
variable {lt:Keyed->Keyed->Bool} {arr:Array Keyed}
theorem ext_list (arr:Array Keyed) (i j:Nat):(arr.extract i j).toList=(arr.toList.drop i).take (j - i):=by
 rw [Array.toList_extract,List.extract_eq_take_drop]
theorem ext_get {arr:Array Keyed} {i j n:Nat} (h:n < j - i):(arr.extract i j)[n]?=arr[i + n]?:=by
 rw [<-Array.getElem?_toList,ext_list,List.getElem?_take_of_lt h,List.getElem?_drop,Array.getElem?_toList]
theorem mem_drop_take {arr:Array Keyed} {i j:Nat} {z:Keyed} (h:z ∈ (arr.extract i j).toList):∃ n,i<=n/\n < j/\arr[n]?=some z:=by
 rw [ext_list] at h
 obtain ⟨n,hn,rfl⟩:=List.getElem_of_mem h
 rw [List.length_take,List.length_drop,Array.length_toList] at hn
 refine ⟨i + n,by omega,by omega,?_⟩
 rw [Array.getElem?_eq_getElem (by omega),List.getElem_take,List.getElem_drop]
 simp
theorem mem_dropA {arr:Array Keyed} {i:Nat} {z:Keyed} (h:z ∈ arr.toList.drop i):∃ n,i<=n/\n < arr.size/\arr[n]?=some z:=by
 rw [<-ext_drop] at h
 exact mem_drop_take h
theorem mem_takeA {arr:Array Keyed} {i:Nat} {z:Keyed} (h:z ∈ arr.toList.take i):∃ n,n < i/\arr[n]?=some z:=by
 rw [<-ext_take] at h
 obtain ⟨n,_,h1,h2⟩:=mem_drop_take h
 exact ⟨n,h1,h2⟩
end
section
variable {prog:Program} {w:World} {A:Around} {E:Value->Shared->Prop} {s:Shared} {lt:Keyed->Keyed->Bool} {κ:SortKind} {S:Keyed->Prop}
theorem wpS_set {Q:PUnit->SortSt->Prop} {st st':SortSt} (h:Q ⟨⟩ st'):wpS (model prog w) A E s (set st':StateT SortSt Sem PUnit) Q st:=by
 unfold wpS; rw [StateT.run_set]; exact wpAny_pure ⟨rfl,h⟩
theorem pend1 {x y z:Nat × Nat × Nat}:((#[x,y].setIfInBounds 0 z).eraseIdxIfInBounds (0 + 1)).size=1:=by simp [Array.eraseIdxIfInBounds]
theorem mergeAt_ok {arr:Array Keyed} {n1 n2 p1 p2 gl:Nat} {Q:Bool->SortSt->Prop} (L:LtK lt) (h:AnsK prog w A s κ lt S)
  (hS:∀ x ∈ arr.toList,S x) (h1:0 < n1) (h2:0 < n2) (hn:n1 + n2=arr.size) (s1:SrtL lt (arr.toList.take n1)) (s2:SrtL lt (arr.toList.drop n1))
  (q:∀ st',(arrOf st').toList.Perm arr.toList->SrtL lt (arrOf st').toList->failedOf st'=none->(pendingOf st').size=1->Q true st'):wpS (model prog w) A E s (mergeAt' 0) Q (SortSt.mk' κ arr #[(0,n1,p1),(n1,n2,p2)] gl none):=by
 have g:∀ i,i < arr.size->∃ x,arr[i]?=some x/\S x:=fun i hi=>⟨arr[i],Array.getElem?_eq_getElem hi,hS _ (by simp)⟩
 have le1:∀ {i j:Nat} {x y:Keyed},i<=j->j < n1->arr[i]?=some x->arr[j]?=some y->lt y x=false:=fun {i j x y} hij hj ex ey=>by
  have:=srt_at L (arr:=arr.extract 0 n1) (by rw [ext_take]; exact s1) (i:=i) (j:=j) (x:=x) (y:=y) hij
  refine this ?_ ?_
  ·rw [ext_get (by omega),Nat.zero_add]; exact ex
  ·rw [ext_get (by omega),Nat.zero_add]; exact ey
 have le2:∀ {i j:Nat} {x y:Keyed},n1<=i->i<=j->arr[i]?=some x->arr[j]?=some y->lt y x=false:=fun {i j x y} hi hij ex ey=>by
  have:=srt_at L (arr:=arr.extract n1 arr.size) (by rw [ext_drop]; exact s2) (i:=i - n1) (j:=j - n1) (x:=x) (y:=y) (by omega)
  obtain ⟨bi,_⟩:=Array.getElem?_eq_some_iff.mp ex
  obtain ⟨bj,_⟩:=Array.getElem?_eq_some_iff.mp ey
  refine this ?_ ?_
  ·rw [ext_get (by omega),show n1 + (i - n1)=i by omega]; exact ex
  ·rw [ext_get (by omega),show n1 + (j - n1)=j by omega]; exact ey
 have all:(arr.toList.take n1++arr.toList.drop n1)=arr.toList:=List.take_append_drop _ _
 have ok:∀ {x y:Keyed},(∀ x ∈ arr.toList.take n1,∀ y ∈ arr.toList.drop n1,lt y x=false)->SrtL lt arr.toList:=fun hh=>by
  rw [<-all]; exact List.pairwise_append.mpr ⟨s1,s2,hh⟩
 refine wpS_bind (wpS_get ?_)
 refine wpS_bind (wpS_set ?_)
 obtain ⟨b0,eb0,sb0⟩:=g n1 (by omega)
 obtain ⟨al,eal,sal⟩:=g (n1 - 1) (by omega)
 refine wpS_bind (elem_ok eb0 (wpS_bind ?_))
 refine gallop_ok (B:=fun i=>!lt b0 (arr[i]?.getD default)) h rfl sb0 h1 (fun i hi=>?_) (fun i i' hii hi' hB=>?_) fun k hk1 hk2 hk3=>?_
 ·obtain ⟨x,ex,sx⟩:=g i (by omega)
  refine ⟨x,by rw [Nat.zero_add]; exact ex,sx,?_⟩
  simp only [ex]; rfl
 ·obtain ⟨x,ex,sx⟩:=g i (by omega)
  obtain ⟨x',ex',sx'⟩:=g i' (by omega)
  simp only [ex,ex',Option.getD_some,Bool.not_eq_true'] at hB ⊢
  exact L.tr (le1 hii hi' ex ex') hB
 have lo1:∀ i x,i < k->arr[i]?=some x->lt b0 x=false:=fun i x hi ex=>by
  have:=hk2 i hi
  simpa only [ex,Option.getD_some,Bool.not_eq_true'] using this
 have hi1:∀ i x,k<=i->i < n1->arr[i]?=some x->lt b0 x=true:=fun i x hi hi' ex=>by
  have:=hk3 i hi hi'
  simpa only [ex,Option.getD_some,Bool.not_eq_false'] using this
 dsimp only
 by_cases c1:(n1 - k == 0)=true
 ·rw [if_pos c1]
  have c1':n1 - k=0:=by simpa using c1
  refine wpS_pure (q _ (List.Perm.refl _) (ok (x:=b0) (y:=b0) fun x hx y hy=>?_) rfl pend1)
  obtain ⟨i,hi,ex⟩:=mem_takeA hx
  obtain ⟨j,hj,_,ey⟩:=mem_dropA hy
  exact L.tr (lo1 i x (by omega) ex) (le2 (Nat.le_refl _) hj eb0 ey)
 rw [if_neg c1]
 have c1':¬ n1 - k=0:=by simpa using c1
 refine wpS_bind (elem_ok (x:=al) (by rw [show 0 + k + (n1 - k) - 1=n1 - 1 by omega]; exact eal) (wpS_bind ?_))
 refine gallop_ok (B:=fun i=>lt (arr[n1 + i]?.getD default) al) h rfl sal (by omega) (fun i hi=>?_) (fun i i' hii hi' hB=>?_) fun nb hb1 hb2 hb3=>?_
 ·obtain ⟨x,ex,sx⟩:=g (n1 + i) (by omega)
  refine ⟨x,ex,sx,?_⟩
  simp only [ex]; rfl
 ·obtain ⟨x,ex,sx⟩:=g (n1 + i) (by omega)
  obtain ⟨x',ex',sx'⟩:=g (n1 + i') (by omega)
  simp only [ex,ex',Option.getD_some] at hB ⊢
  cases hx:lt x al with
  | true=>rfl
  | false=>rw [L.tr hx (le2 (by omega) (by omega) ex ex')] at hB; cases hB
 have lo2:∀ j y,n1<=j->j < n1 + nb->arr[j]?=some y->lt y al=true:=fun j y hj hj' ey=>by
  have:=hb2 (j - n1) (by omega)
  simpa only [show n1 + (j - n1)=j by omega,ey,Option.getD_some] using this
 have hi2:∀ j y,n1 + nb<=j->arr[j]?=some y->lt y al=false:=fun j y hj ey=>by
  obtain ⟨bj,_⟩:=Array.getElem?_eq_some_iff.mp ey
  have:=hb3 (j - n1) (by omega) (by omega)
  simpa only [show n1 + (j - n1)=j by omega,ey,Option.getD_some] using this
 dsimp only
 by_cases c2:(nb == 0)=true
 ·rw [if_pos c2]
  have c2':nb=0:=by simpa using c2
  refine wpS_pure (q _ (List.Perm.refl _) (ok (x:=b0) (y:=b0) fun x hx y hy=>?_) rfl pend1)
  obtain ⟨i,hi,ex⟩:=mem_takeA hx
  obtain ⟨j,hj,_,ey⟩:=mem_dropA hy
  exact L.tr (le1 (by omega) (by omega) ex eal) (hi2 j y (by omega) ey)
 rw [if_neg c2]
 have c2':¬ nb=0:=by simpa using c2
 -- the two parts
 simp only [Nat.zero_add]
 have zX:(arr.extract k n1).size=n1 - k:=by rw [Array.size_extract]; omega
 have zY:(arr.extract n1 (n1 + nb)).size=nb:=by rw [Array.size_extract]; omega
 have eT:arr.toList.take n1=arr.toList.take k++(arr.extract k n1).toList:=by
  rw [ext_list,<-List.take_add]; congr 1; omega
 have eD:arr.toList.drop n1=(arr.extract n1 (n1 + nb)).toList++arr.toList.drop (n1 + nb):=by
  rw [ext_list,show n1 + nb - n1=nb by omega,<-List.drop_drop,List.take_append_drop]
 have sX:SrtL lt (arr.extract k n1).toList:=by rw [eT] at s1; exact (List.pairwise_append.mp s1).2.1
 have sY:SrtL lt (arr.extract n1 (n1 + nb)).toList:=by rw [eD] at s2; exact (List.pairwise_append.mp s2).1
 have FX:∀ z ∈ (arr.extract k n1).toList,lt b0 z=true:=fun z hz=>by
  obtain ⟨i,q1,q2,e⟩:=mem_drop_take hz
  exact hi1 i z q1 q2 e
 have FY:∀ z ∈ (arr.extract n1 (n1 + nb)).toList,lt z al=true:=fun z hz=>by
  obtain ⟨i,q1,q2,e⟩:=mem_drop_take hz
  exact lo2 i z q1 q2 e
 have X:MCx prog w A s κ lt S (arr.extract k n1) (arr.extract n1 (n1 + nb)):=⟨L,h,fun i hi=>by
   rw [zX] at hi
   rw [ext_get (by omega)]; exact g _ (by omega),fun i hi=>by
   rw [zY] at hi
   rw [ext_get (by omega)]; exact g _ (by omega),sX,sY⟩
 have last:∀ x,x ∈ (arr.extract k n1).toList.drop ((arr.extract k n1).size - 1)->x=al:=fun x hx=>by
  obtain ⟨n,hn1,hn2,ex⟩:=mem_dropA hx
  rw [zX] at hn1 hn2
  rw [ext_get (by omega),show k + n=n1 - 1 by omega,eal] at ex
  cases ex; rfl
 have first:∀ x,x ∈ (arr.extract n1 (n1 + nb)).toList.take 1->x=b0:=fun x hx=>by
  obtain ⟨n,hn1,ex⟩:=mem_takeA hx
  rw [ext_get (by omega),show n1 + n=n1 by omega,eb0] at ex
  cases ex; rfl
 -- behind the merge
 have behind:∀ (m:Array Keyed),Fine lt (arr.extract k n1) (arr.extract n1 (n1 + nb)) m->∀ st':SortSt,arrOf st'=(m.toList.zipIdx.foldl (fun a q=>a.setIfInBounds (k + q.2) q.1) arr)->failedOf st'=none->(pendingOf st').size=1->Q true st':=by
  intro m hm st' e1 e2 e3
  have ml:m.toList.length=n1 - k + nb:=by
   rw [hm.2.length_eq,List.length_append,Array.length_toList,Array.length_toList,zX,zY]
  have e:(arrOf st').toList=arr.toList.take k++(m.toList++arr.toList.drop (n1 + nb)):=by
   rw [e1]
   have:=fold_set k m.toList 0 arr (by omega)
   rw [this]
   rw [show k + 0=k from rfl,show k + m.toList.length=n1 + nb by omega]
  refine q st' ?_ ?_ e2 e3
  ·have e2:arr.toList.take k++(((arr.extract k n1).toList++(arr.extract n1 (n1 + nb)).toList)++arr.toList.drop (n1 + nb))=arr.toList:=by
    rw [List.append_assoc,<-eD,<-List.append_assoc,<-eT]; exact all
   rw [e]
   exact (List.Perm.append_left _ (hm.2.append_right _)).trans (List.Perm.of_eq e2)
  ·have mem:∀ z ∈ m.toList,(∃ i,k<=i/\i < n1/\arr[i]?=some z)\/(∃ j,n1<=j/\j < n1 + nb/\arr[j]?=some z):=fun z hz=>by
    rcases List.mem_append.mp (hm.2.mem_iff.mp hz) with hz | hz
    ·exact .inl (mem_drop_take hz)
    ·exact .inr (mem_drop_take hz)
   rw [e]
   refine List.pairwise_append.mpr ⟨?_,List.pairwise_append.mpr ⟨hm.1,?_,fun x hx y hy=>?_⟩,fun x hx y hy=>?_⟩
   ·rw [eT] at s1; exact (List.pairwise_append.mp s1).1
   ·rw [eD] at s2; exact (List.pairwise_append.mp s2).2.1
   ·obtain ⟨j,q1,q2,ey⟩:=mem_dropA hy
    rcases mem x hx with ⟨i,a1,a2,ex⟩ | ⟨i,a1,a2,ex⟩
    ·exact L.tr (le1 (by omega) (by omega) ex eal) (hi2 j y q1 ey)
    ·exact le2 a1 (by omega) ex ey
   ·obtain ⟨i,a1,ex⟩:=mem_takeA hx
    have lb:∀ j,n1<=j->arr[j]?=some y->lt y x=false:=fun j hj ey=>L.tr (lo1 i x a1 ex) (le2 (Nat.le_refl _) hj eb0 ey)
    rcases List.mem_append.mp hy with hy | hy
    ·rcases mem y hy with ⟨j,b1,b2,ey⟩ | ⟨j,b1,b2,ey⟩
     ·exact le1 (by omega) b2 ex ey
     ·exact lb j b1 ey
    ·obtain ⟨j,q1,q2,ey⟩:=mem_dropA hy
     exact lb j (by omega) ey
 by_cases c3:n1 - k<=nb
 ·rw [if_pos c3]
  refine wpS_bind (mergeLo_ok L h rfl (fun x hx=>by obtain ⟨i,q1,q2,e⟩:=mem_drop_take hx; exact hS x (by simpa using Array.mem_of_getElem? e)) (fun x hx=>by obtain ⟨i,q1,q2,e⟩:=mem_drop_take hx; exact hS x (by simpa using Array.mem_of_getElem? e)) sX sY (by omega) (by omega) (fun x y ex ey=>?_) (fun x hx y hy=>?_) fun gl m hm=>?_)
  ·have:y=b0:=by
    rw [ext_get (by omega),show n1 + 0=n1 by omega,eb0] at ey
    cases ey; rfl
   subst this
   exact FX x (Array.mem_toList_iff.mpr (Array.mem_of_getElem? ex))
  ·rw [last x hx]; exact L.as (FY y hy)
  ·exact wpS_bind (wpS_modify (wpS_bind (wpS_get (wpS_pure (behind m hm _ rfl rfl pend1)))))
 ·rw [if_neg c3]
  refine wpS_bind (mergeHi_ok X rfl (by omega) (by omega) (fun x hx y hy=>?_) (fun x y ex hy=>?_) fun gl m hm=>?_)
  ·rw [first x hx]; exact L.as (FX y hy)
  ·have:x=al:=by
    rw [zX,ext_get (by omega),show k + (n1 - k - 1)=n1 - 1 by omega,eal] at ex
    cases ex; rfl
   rw [this]; exact L.as (FY y hy)
  ·exact wpS_bind (wpS_modify (wpS_bind (wpS_get (wpS_pure (behind m hm _ rfl rfl pend1)))))
end
noncomputable def vat (arr:Array Keyed) (i:Nat):Keyed:=arr[i]?.getD default
noncomputable def Up (lt:Keyed->Keyed->Bool) (arr:Array Keyed) (i j:Nat):Prop:=∀ p q,i<=p->p<=q->q < j->lt (vat arr q) (vat arr p)=false
noncomputable def Dn (lt:Keyed->Keyed->Bool) (arr:Array Keyed) (i j:Nat):Prop:=∀ p q,i<=p->p<=q->q < j->lt (vat arr p) (vat arr q)=false
noncomputable def Evn (lt:Keyed->Keyed->Bool) (arr:Array Keyed) (i j:Nat):Prop:=∀ p q,i<=p->p < j->i<=q->q < j->lt (vat arr p) (vat arr q)=false
structure Chg (lo:Nat) (arr arr':Array Keyed):Prop where
 prm:arr'.Perm arr
 low:∀ k,k < lo->arr'[k]?=arr[k]?
theorem Chg.rfl {lo:Nat} {arr:Array Keyed}:Chg lo arr arr:=⟨Array.Perm.refl _,fun _ _=>Eq.refl _⟩
theorem Chg.trans {lo:Nat} {a b c:Array Keyed} (x:Chg lo a b) (y:Chg lo b c):Chg lo a c:=⟨y.prm.trans x.prm,fun k h=>(y.low k h).trans (x.low k h)⟩
theorem Chg.size {lo:Nat} {a b:Array Keyed} (x:Chg lo a b):b.size=a.size:=x.prm.size_eq
theorem Chg.mem {lo:Nat} {a b:Array Keyed} (x:Chg lo a b) {S:Keyed->Prop} (h:∀ z ∈ a.toList,S z):∀ z ∈ b.toList,S z:=fun z hz=>h z ((Array.perm_iff_toList_perm.mp x.prm).mem_iff.mp hz)
noncomputable abbrev mir (arr:Array Keyed) (i j:Nat):Array Keyed:=mirror arr i j ((j - i) / 2)
theorem chg_mir {lo i j:Nat} {arr:Array Keyed} (hj:j<=arr.size) (hi:lo<=i):Chg lo arr (mir arr i j):=⟨mirror_perm _ _ _ _,fun k hk=>by rw [getElem?_mirror_all hj,if_neg (by omega)]⟩
theorem vat_mir {i j:Nat} {arr:Array Keyed} (hj:j<=arr.size) (k:Nat):vat (mir arr i j) k=if i<=k/\k < j then vat arr (i + j - 1 - k) else vat arr k:=by
 unfold vat
 rw [getElem?_mirror_all hj]
 split<;>rfl
theorem chg_bub {lo src d:Nat} {arr:Array Keyed} (hs:src < arr.size) (hd:lo + d<=src):Chg lo arr (bubble arr src d):=⟨bubble_perm _ _ _,fun k hk=>by rw [getElem?_bubble hs d (by omega),if_neg (by omega),if_neg (by omega)]⟩
theorem vat_bub {src d:Nat} {arr:Array Keyed} (hs:src < arr.size) (hd:d<=src) (k:Nat):vat (bubble arr src d) k=if k=src - d then vat arr src else if src - d < k/\k<=src then vat arr (k - 1) else vat arr k:=by
 unfold vat
 rw [getElem?_bubble hs d hd]
 split
 ·rfl
 ·split<;>rfl
section
variable {lt:Keyed->Keyed->Bool} {arr:Array Keyed} {i j:Nat}
theorem Up.one (L:LtK lt):Up lt arr i (i + 1):=fun p q h1 h2 h3=>by
 obtain rfl:p=q:=by omega
 exact L.irr _
theorem Up.more (L:LtK lt) (h:Up lt arr i j) (hij:i < j) (e:lt (vat arr j) (vat arr (j - 1))=false):Up lt arr i (j + 1):=fun p q h1 h2 h3=>by
 by_cases hq:q < j
 ·exact h p q h1 h2 hq
 ·obtain rfl:q=j:=by omega
  by_cases hp:p=q
  ·subst hp; exact L.irr _
  ·exact L.tr (h p (q - 1) h1 (by omega) (by omega)) e
theorem Dn.more (L:LtK lt) (h:Dn lt arr i j) (hij:i < j) (e:lt (vat arr (j - 1)) (vat arr j)=false):Dn lt arr i (j + 1):=fun p q h1 h2 h3=>by
 by_cases hq:q < j
 ·exact h p q h1 h2 hq
 ·obtain rfl:q=j:=by omega
  by_cases hp:p=q
  ·subst hp; exact L.irr _
  ·exact L.tr e (h p (q - 1) h1 (by omega) (by omega))
theorem Up.mir (h:Dn lt arr i j) (hj:j<=arr.size):Up lt (mir arr i j) i j:=fun p q h1 h2 h3=>by
 rw [vat_mir hj,vat_mir hj,if_pos (by omega),if_pos (by omega)]
 exact h _ _ (by omega) (by omega) (by omega)
theorem Dn.even {m n:Nat} (L:LtK lt) (h:Dn lt arr i j) (hm:i<=m) (hn:n<=j) (hj:j<=arr.size) (e:Evn lt arr m n):Dn lt (mir arr m n) i j:=fun p q h1 h2 h3=>by
 rw [vat_mir (by omega),vat_mir (by omega)]
 by_cases cp:m<=p/\p < n
 ·rw [if_pos cp]
  by_cases cq:m<=q/\q < n
  ·rw [if_pos cq]; exact e _ _ (by omega) (by omega) (by omega) (by omega)
  ·rw [if_neg cq]; exact h _ _ (by omega) (by omega) h3
 ·rw [if_neg cp]
  by_cases cq:m<=q/\q < n
  ·rw [if_pos cq]; exact h _ _ h1 (by omega) (by omega)
  ·rw [if_neg cq]; exact h _ _ h1 h2 h3
end
section
variable {prog:Program} {w:World} {A:Around} {E:Value->Shared->Prop} {s:Shared} {lt:Keyed->Keyed->Bool} {κ:SortKind} {S:Keyed->Prop} {arr:Array Keyed} {pe:Array (Nat × Nat × Nat)} {gl:Nat}
theorem at_ok (hS:∀ x ∈ arr.toList,S x) {i:Nat} (h:i < arr.size):arr[i]?=some (vat arr i)/\S (vat arr i):=by
 have e:arr[i]?=some arr[i]:=Array.getElem?_eq_getElem h
 have v:vat arr i=arr[i]:=by unfold vat; rw [e]; rfl
 rw [v]
 exact ⟨e,hS _ (by simp)⟩
theorem ltAt_ok {i j:Nat} {Q:Option Bool->SortSt->Prop} (h:AnsK prog w A s κ lt S) (hS:∀ x ∈ arr.toList,S x) (hi:i < arr.size) (hj:j < arr.size) (q:Q (some (lt (vat arr i) (vat arr j))) (SortSt.mk' κ arr pe gl none)) :
  wpS (model prog w) A E s (ltAt' i j) Q (SortSt.mk' κ arr pe gl none):=by
 rw [ltAt'_eq]
 refine wpS_bind (wpS_get ?_)
 exact wpS_bind (elem_ok (at_ok hS hi).1 (wpS_bind (elem_ok (at_ok hS hj).1 (ltk_ok h rfl (at_ok hS hi).2 (at_ok hS hj).2 q))))
theorem rev_ok {i j:Nat} {Q:Unit->SortSt->Prop} (q:Q () (SortSt.mk' κ (mir arr i j) pe gl none)):wpS (model prog w) A E s (reverseSlice' i j) Q (SortSt.mk' κ arr pe gl none):=by
 rw [reverseSlice'_eq]; exact wpS_modify q
noncomputable def upB (lo:Nat) (_:Nat) (z:Option (Option Nat) × Nat):StateT SortSt Sem (ForInStep (Option (Option Nat) × Nat)) :=
 ltAt' (lo + z.2) (lo + z.2 - 1) >>= fun t=>match t with
  | some c=>if c=true then pure (.done (none,z.2)) else pure (.yield (none,z.2 + 1))
  | _=>pure (.done (some none,z.2))
theorem up_ok {lo n nrem:Nat} {Q:Option (Option Nat) × Nat->SortSt->Prop} (L:LtK lt) (h:AnsK prog w A s κ lt S) (hS:∀ x ∈ arr.toList,S x) (hz:lo + nrem<=arr.size) (h1:1<=n) (h2:n<=nrem) (u:Up lt arr lo (lo + n))
  (q:∀ m,n<=m->m<=nrem->Up lt arr lo (lo + m)->(m=nrem\/lt (vat arr (lo + m)) (vat arr (lo + m - 1))=true)->Q (none,m) (SortSt.mk' κ arr pe gl none)) :
  wpS (model prog w) A E s (forIn [n:nrem] ((none,n):Option (Option Nat) × Nat) (upB lo)) Q (SortSt.mk' κ arr pe gl none):=by
 refine wpS_forRange (I:=fun x c st'=>st'=SortSt.mk' κ arr pe gl none/\c=(none,x)/\Up lt arr lo (lo + x)) ?_ ?_ ⟨rfl,rfl,u⟩
 ·rintro x c st' hx1 hx2 ⟨rfl,rfl,u'⟩
  unfold upB
  refine wpS_bind (ltAt_ok h hS (by dsimp only; omega) (by dsimp only; omega) ?_)
  dsimp only
  cases e:lt (vat arr (lo + x)) (vat arr (lo + x - 1)) with
  | true=>exact wpS_pure (q x hx1 (by omega) u' (.inr e))
  | false=>exact wpS_pure ⟨rfl,rfl,Up.more (j:=lo + x) L u' (by omega) e⟩
 ·rintro c st' ⟨rfl,rfl,u'⟩
  rw [show max n nrem=nrem by omega] at u' ⊢
  exact q nrem h2 (Nat.le_refl _) u' (.inl rfl)
noncomputable def cntE (lo n nrem:Nat):StateT SortSt Sem (Option Nat) :=
 reverseSlice' lo (lo + n) >>= fun _=>forIn [n:nrem] ((none,n):Option (Option Nat) × Nat) (upB lo) >>= fun z=>match z.1 with
  | some r=>pure r
  | none=>pure (some z.2)
structure CntQ (lt:Keyed->Keyed->Bool) (κ:SortKind) (pe:Array (Nat × Nat × Nat)) (gl lo nrem:Nat) (arr:Array Keyed) (Q:Option Nat->SortSt->Prop):Prop where
 q:∀ m arr',1<=m->m<=nrem->Chg lo arr arr'->Up lt arr' lo (lo + m)->Q (some m) (SortSt.mk' κ arr' pe gl none)
theorem CntQ.chg {lo nrem:Nat} {arr':Array Keyed} {Q:Option Nat->SortSt->Prop} (x:CntQ lt κ pe gl lo nrem arr Q) (c:Chg lo arr arr'):CntQ lt κ pe gl lo nrem arr' Q:=⟨fun m a h1 h2 c' u=>x.q m a h1 h2 (c.trans c') u⟩
theorem cntE_ok {lo n nrem:Nat} {Q:Option Nat->SortSt->Prop} (L:LtK lt) (h:AnsK prog w A s κ lt S) (hS:∀ x ∈ arr.toList,S x) (hz:lo + nrem<=arr.size) (h1:1<=n) (h2:n<=nrem) (d:Dn lt arr lo (lo + n)) (q:CntQ lt κ pe gl lo nrem arr Q) :
  wpS (model prog w) A E s (cntE lo n nrem) Q (SortSt.mk' κ arr pe gl none):=by
 unfold cntE
 have c:Chg lo arr (mir arr lo (lo + n)):=chg_mir (by omega) (Nat.le_refl _)
 refine wpS_bind (rev_ok (wpS_bind (up_ok L h (c.mem hS) (by rw [c.size]; exact hz) h1 h2 (Up.mir d (by omega)) fun m hm1 hm2 u _=>?_)))
 exact wpS_pure (q.q m _ (by omega) hm2 c u)
noncomputable def dnB (lo:Nat) (_:Nat) (z:Option (Option Nat) × Nat × Nat):StateT SortSt Sem (ForInStep (Option (Option Nat) × Nat × Nat)) :=
 ltAt' (lo + z.2.1) (lo + z.2.1 - 1) >>= fun t=>match t with
  | some c=>if c=true then (if z.2.2 > 0 then reverseSlice' (lo + z.2.1 - (z.2.2 + 1)) (lo + z.2.1) >>= fun _=>pure (.yield (none,z.2.1 + 1,0)) else pure (.yield (none,z.2.1 + 1,0)))
   else ltAt' (lo + z.2.1 - 1) (lo + z.2.1) >>= fun t'=>match t' with
    | some c'=>if c'=true then pure (.done (none,z.2.1,z.2.2)) else pure (.yield (none,z.2.1 + 1,z.2.2 + 1))
    | _=>pure (.done (some none,z.2.1,z.2.2))
  | _=>pure (.done (some none,z.2.1,z.2.2))
noncomputable def cntD (lo n nrem:Nat):StateT SortSt Sem (Option Nat) :=
 liftM (rule "list.sort.descending-run") >>= fun _=>forIn [n + 1:nrem] ((none,n + 1,0):Option (Option Nat) × Nat × Nat) (dnB lo) >>= fun z=>match z.1 with
  | some r=>pure r
  | none=>if z.2.2 > 0 then reverseSlice' (lo + z.2.1 - (z.2.2 + 1)) (lo + z.2.1) >>= fun _=>cntE lo z.2.1 nrem else cntE lo z.2.1 nrem
theorem cntD_ok {lo n nrem:Nat} {Q:Option Nat->SortSt->Prop} (L:LtK lt) (h:AnsK prog w A s κ lt S) (hS:∀ x ∈ arr.toList,S x) (hz:lo + nrem<=arr.size) (h2:n + 1<=nrem) (d:Dn lt arr lo (lo + (n + 1))) (q:CntQ lt κ pe gl lo nrem arr Q) :
  wpS (model prog w) A E s (cntD lo n nrem) Q (SortSt.mk' κ arr pe gl none):=by
 unfold cntD
 refine wpS_bind (wpS_lift (wpAny_rule ⟨rfl,?_⟩))
 refine wpS_bind (wpS_mono (wpS_forRange (I:=fun x c st'=>∃ arr' e,st'=SortSt.mk' κ arr' pe gl none/\c=(none,x,e)/\Chg lo arr arr'/\Dn lt arr' lo (lo + x)/\e + 1<=x/\Evn lt arr' (lo + x - (e + 1)) (lo + x))
  (Q:=fun c st'=>∃ arr' x e,x<=nrem/\n + 1<=x/\st'=SortSt.mk' κ arr' pe gl none/\c=(none,x,e)/\Chg lo arr arr'/\Dn lt arr' lo (lo + x)/\e + 1<=x/\Evn lt arr' (lo + x - (e + 1)) (lo + x)) ?_ ?_
   ⟨arr,0,rfl,rfl,Chg.rfl,d,by omega,fun p q a1 a2 a3 a4=>by obtain rfl:p=q:=(by omega); exact L.irr _⟩) ?_)
 ·rintro x c st' hx1 hx2 ⟨ar,e,rfl,rfl,c,d,he,ev⟩
  have hz':lo + nrem<=ar.size:=by rw [c.size]; exact hz
  have hS':=c.mem hS
  unfold dnB
  refine wpS_bind (ltAt_ok h hS' (by dsimp only; omega) (by dsimp only; omega) ?_)
  dsimp only
  have one:∀ (ar':Array Keyed),Evn lt ar' (lo + (x + 1) - (0 + 1)) (lo + (x + 1)):=fun ar' p q a1 a2 a3 a4=>by obtain rfl:p=q:=(by omega); exact L.irr _
  cases e1:lt (vat ar (lo + x)) (vat ar (lo + x - 1)) with
  | true =>
   rw [if_pos rfl]
   by_cases hq:e > 0
   ·rw [if_pos hq]
    have c':Chg lo ar (mir ar (lo + x - (e + 1)) (lo + x)):=chg_mir (by omega) (by omega)
    refine wpS_bind (rev_ok (wpS_pure ⟨_,0,rfl,rfl,c.trans c',?_,by omega,one _⟩))
    refine Dn.more (j:=lo + x) L (d.even L (by omega) (Nat.le_refl _) (by omega) ev) (by omega) ?_
    rw [vat_mir (by omega),vat_mir (by omega),if_pos (by omega),if_neg (by omega)]
    exact L.tr (L.as e1) (ev _ _ (by omega) (by omega) (by omega) (by omega))
   ·rw [if_neg hq]
    exact wpS_pure ⟨_,0,rfl,rfl,c,Dn.more (j:=lo + x) L d (by omega) (L.as e1),by omega,one _⟩
  | false =>
   rw [if_neg (by simp)]
   refine wpS_bind (ltAt_ok h hS' (by omega) (by omega) ?_)
   cases e2:lt (vat ar (lo + x - 1)) (vat ar (lo + x)) with
   | true=>exact wpS_pure ⟨_,_,_,by omega,hx1,rfl,rfl,c,d,he,ev⟩
   | false =>
    refine wpS_pure ⟨_,e + 1,rfl,rfl,c,Dn.more (j:=lo + x) L d (by omega) e2,by omega,?_⟩
    -- x is even with the one before
    have toL:∀ p,lo + (x + 1) - (e + 1 + 1)<=p->p < lo + x->lt (vat ar p) (vat ar (lo + x))=false/\lt (vat ar (lo + x)) (vat ar p)=false:=fun p a1 a2 =>
     ⟨L.tr e2 (ev p (lo + x - 1) (by omega) a2 (by omega) (by omega)),L.tr (ev (lo + x - 1) p (by omega) (by omega) (by omega) a2) e1⟩
    intro p q a1 a2 a3 a4
    by_cases hp:p < lo + x
    ·by_cases hq:q < lo + x
     ·exact ev p q (by omega) hp (by omega) hq
     ·obtain rfl:q=lo + x:=by omega
      exact (toL p a1 hp).1
    ·obtain rfl:p=lo + x:=by omega
     by_cases hq:q < lo + x
     ·exact (toL q a3 hq).2
     ·obtain rfl:q=lo + x:=by omega
      exact L.irr _
 ·rintro c st' ⟨ar,e,rfl,rfl,c,d,he,ev⟩
  rw [show max (n + 1) nrem=nrem by omega] at *
  exact ⟨_,_,_,Nat.le_refl _,h2,rfl,rfl,c,d,he,ev⟩
 ·rintro c st' ⟨ar,x,e,hx,hx1,rfl,rfl,c,d,he,ev⟩
  have hz':lo + nrem<=ar.size:=by rw [c.size]; exact hz
  have hS':=c.mem hS
  dsimp only
  by_cases hq:e > 0
  ·rw [if_pos hq]
   have c':Chg lo ar (mir ar (lo + x - (e + 1)) (lo + x)):=chg_mir (by omega) (by omega)
   exact wpS_bind (rev_ok (cntE_ok L h (c'.mem hS') (by rw [c'.size]; exact hz') (by omega) hx (d.even L (by omega) (Nat.le_refl _) (by omega) ev) (q.chg (c.trans c'))))
  ·rw [if_neg hq]
   exact cntE_ok L h hS' hz' (by omega) hx d (q.chg c)
theorem count_eq (lo nrem:Nat):countRun' lo nrem=(forIn [1:nrem] ((none,1):Option (Option Nat) × Nat) (upB lo) >>= fun z=>match z.1 with
  | some r=>pure r
  | none=>if (z.2 == nrem)=true then pure (some z.2) else if z.2 > 1 then ltAt' lo (lo + z.2 - 1) >>= fun t=>match t with
    | some c=>if c=true then pure (some z.2) else reverseSlice' lo (lo + z.2) >>= fun _=>cntD lo z.2 nrem
    | _=>pure none
   else cntD lo z.2 nrem):=by
 delta countRun'
 refine congrArg (Bind.bind _) (funext fun z=>?_)
 obtain ⟨r,n⟩:=z
 cases r with
 | some r=>rfl
 | none =>
  dsimp only
  refine ite_congr rfl (fun _=>rfl) fun _=>?_
  refine ite_congr rfl (fun _=>?_) fun _=>?_
  ·refine congrArg (Bind.bind _) (funext fun t=>?_)
   cases t with
   | none=>rfl
   | some c =>
    dsimp only
    refine ite_congr rfl (fun _=>rfl) fun _=>?_
    refine congrArg (Bind.bind _) (funext fun _=>?_)
    unfold cntD
    refine congrArg (Bind.bind _) (funext fun _=>?_)
    refine congrArg (Bind.bind _) (funext fun z=>?_)
    obtain ⟨r,n,e⟩:=z
    cases r with
    | some r=>rfl
    | none =>
     dsimp only
     refine ite_congr rfl (fun _=>?_) fun _=>?_
     ·refine congrArg (Bind.bind _) (funext fun _=>?_)
      unfold cntE
      refine congrArg (Bind.bind _) (funext fun _=>?_)
      refine congrArg (Bind.bind _) (funext fun z=>?_)
      obtain ⟨r,n⟩:=z
      cases r<;>rfl
     ·unfold cntE
      refine congrArg (Bind.bind _) (funext fun _=>?_)
      refine congrArg (Bind.bind _) (funext fun z=>?_)
      obtain ⟨r,n⟩:=z
      cases r<;>rfl
  ·unfold cntD
   refine congrArg (Bind.bind _) (funext fun _=>?_)
   refine congrArg (Bind.bind _) (funext fun z=>?_)
   obtain ⟨r,n,e⟩:=z
   cases r with
   | some r=>rfl
   | none =>
    dsimp only
    refine ite_congr rfl (fun _=>?_) fun _=>?_
    ·refine congrArg (Bind.bind _) (funext fun _=>?_)
     unfold cntE
     refine congrArg (Bind.bind _) (funext fun _=>?_)
     refine congrArg (Bind.bind _) (funext fun z=>?_)
     obtain ⟨r,n⟩:=z
     cases r<;>rfl
    ·unfold cntE
     refine congrArg (Bind.bind _) (funext fun _=>?_)
     refine congrArg (Bind.bind _) (funext fun z=>?_)
     obtain ⟨r,n⟩:=z
     cases r<;>rfl
theorem countRun_ok {lo nrem:Nat} {Q:Option Nat->SortSt->Prop} (L:LtK lt) (h:AnsK prog w A s κ lt S) (hS:∀ x ∈ arr.toList,S x) (hz:lo + nrem<=arr.size) (h1:1<=nrem) (q:CntQ lt κ pe gl lo nrem arr Q) :
  wpS (model prog w) A E s (countRun' lo nrem) Q (SortSt.mk' κ arr pe gl none):=by
 rw [count_eq]
 refine wpS_bind (up_ok L h hS hz (Nat.le_refl 1) h1 (Up.one L) fun n hn1 hn2 u hor=>?_)
 dsimp only
 by_cases e1:(n == nrem)=true
 ·rw [if_pos e1]
  exact wpS_pure (q.q n arr hn1 hn2 Chg.rfl u)
 rw [if_neg e1]
 have e1':¬ n=nrem:=by simpa using e1
 have hlt:=hor.resolve_left e1'
 by_cases e2:n > 1
 ·rw [if_pos e2]
  refine wpS_bind (ltAt_ok h hS (by omega) (by omega) ?_)
  cases e3:lt (vat arr lo) (vat arr (lo + n - 1)) with
  | true=>exact wpS_pure (q.q n arr hn1 hn2 Chg.rfl u)
  | false =>
   have ev:Evn lt arr lo (lo + n):=fun p r a1 a2 a3 a4=>by
    -- all between the first and the last are even
    have b1:lt (vat arr p) (vat arr lo)=false:=u lo p (Nat.le_refl _) a1 a2
    have b2:lt (vat arr (lo + n - 1)) (vat arr r)=false:=u r (lo + n - 1) a3 (by omega) (by omega)
    have b3:lt (vat arr (lo + n - 1)) (vat arr p)=false:=u p (lo + n - 1) a1 (by omega) (by omega)
    have b4:lt (vat arr r) (vat arr lo)=false:=u lo r (Nat.le_refl _) a3 a4
    have b5:lt (vat arr lo) (vat arr r)=false:=L.tr b2 e3
    exact L.tr b5 b1
   have c:Chg lo arr (mir arr lo (lo + n)):=chg_mir (by omega) (Nat.le_refl _)
   refine wpS_bind (rev_ok ?_)
   refine cntD_ok (n:=n) L h (c.mem hS) (by rw [c.size]; exact hz) (by omega) ?_ (q.chg c)
   have dn:Dn lt arr lo (lo + n):=fun p r a1 a2 a3=>ev p r a1 (by omega) (by omega) a3
   refine Dn.more (j:=lo + n) L (dn.even L (Nat.le_refl _) (Nat.le_refl _) (by omega) ev) (by omega) ?_
   rw [vat_mir (by omega),vat_mir (by omega),if_pos (by omega),if_neg (by omega)]
   exact L.tr (L.as hlt) (ev _ _ (by omega) (by omega) (by omega) (by omega))
 ·rw [if_neg e2]
  obtain rfl:n=1:=by omega
  refine cntD_ok (n:=1) L h hS hz (by omega) ?_ q
  exact Dn.more (j:=lo + 1) L (fun p r a1 a2 a3=>by obtain rfl:p=r:=(by omega); exact L.irr _) (by omega) (L.as hlt)
end
section
variable {prog:Program} {w:World} {A:Around} {E:Value->Shared->Prop} {s:Shared} {lt:Keyed->Keyed->Bool} {κ:SortKind} {S:Keyed->Prop} {arr:Array Keyed} {pe:Array (Nat × Nat × Nat)} {gl:Nat}
theorem binSort_ok {lo n ok:Nat} {Q:Bool->SortSt->Prop} (L:LtK lt) (h:AnsK prog w A s κ lt S) (hS:∀ x ∈ arr.toList,S x) (hz:lo + n<=arr.size) (h2:ok<=n) (u:Up lt arr lo (lo + ok))
  (q:∀ arr',Chg lo arr arr'->Up lt arr' lo (lo + n)->Q true (SortSt.mk' κ arr' pe gl none)):wpS (model prog w) A E s (binarySort' lo n ok) Q (SortSt.mk' κ arr pe gl none):=by
 rw [binarySort'_eq]
 refine wpS_bind (wpS_mono (wpS_forRange (I:=fun k c st'=>∃ ar,c=(none,())/\st'=SortSt.mk' κ ar pe gl none/\Chg lo arr ar/\Up lt ar lo (lo + min k n))
  (Q:=fun c st'=>∃ ar,c=(none,())/\st'=SortSt.mk' κ ar pe gl none/\Chg lo arr ar/\Up lt ar lo (lo + n)) ?_ ?_ ⟨arr,rfl,rfl,Chg.rfl,fun i j a1 a2 a3=>?_⟩) ?_)
 ·rintro k c st' k1 k2 ⟨ar,rfl,rfl,c,u'⟩
  rw [show min k n=k by omega] at u'
  have hz':lo + n<=ar.size:=by rw [c.size]; exact hz
  have hS':=c.mem hS
  refine wpS_bind (wpS_mono (wpS_forRange (I:=fun x c st''=>∃ l r,c=(none,l,r)/\st''=SortSt.mk' κ ar pe gl none/\l<=r/\r<=k/\r - l<=k - x ∧
    (∀ i,i < l->lt (vat ar (lo + k)) (vat ar (lo + i))=false)/\(∀ i,r<=i->i < k->lt (vat ar (lo + k)) (vat ar (lo + i))=true))
   (Q:=fun c st''=>∃ l r,c=(none,l,r)/\st''=SortSt.mk' κ ar pe gl none/\l<=k ∧
    (∀ i,i < l->lt (vat ar (lo + k)) (vat ar (lo + i))=false)/\(∀ i,l<=i->i < k->lt (vat ar (lo + k)) (vat ar (lo + i))=true)) ?_ ?_ ⟨0,k,rfl,rfl,by omega,by omega,by omega,fun i hi=>by omega,fun i a1 a2=>by omega⟩) ?_)
  ·rintro x c st'' _ hxk ⟨l,r,rfl,rfl,b1,b2,b3,b4,b5⟩
   dsimp only
   by_cases hge:l ≥ r
   ·rw [if_pos hge]
    obtain rfl:l=r:=by omega
    exact wpS_pure ⟨l,l,rfl,rfl,b2,b4,b5⟩
   ·rw [if_neg hge]
    refine wpS_bind (ltAt_ok h hS' (by omega) (by omega) ?_)
    cases e:lt (vat ar (lo + k)) (vat ar (lo + (l + r) / 2)) with
    | true =>
     refine wpS_pure ⟨_,_,rfl,rfl,by omega,by omega,by omega,b4,fun i a1 a2=>?_⟩
     cases e':lt (vat ar (lo + k)) (vat ar (lo + i)) with
     | true=>rfl
     | false=>rw [L.tr (u' (lo + (l + r) / 2) (lo + i) (by omega) (by omega) (by omega)) e'] at e; cases e
    | false=>exact wpS_pure ⟨_,_,rfl,rfl,by omega,by omega,by omega,fun i a1=>L.tr (u' (lo + i) (lo + (l + r) / 2) (by omega) (by omega) (by omega)) e,b5⟩
  ·rintro c st'' ⟨l,r,rfl,rfl,b1,b2,b3,b4,b5⟩
   obtain rfl:l=r:=by omega
   exact ⟨l,l,rfl,rfl,b2,b4,b5⟩
  ·rintro c st'' ⟨l,r,rfl,rfl,b2,b4,b5⟩
   show wpS _ _ _ _ (moveDown' (lo + k) (lo + l) >>= fun _=>pure (ForInStep.yield (none,()))) _ _
   rw [moveDown'_eq]
   have c':Chg lo ar (bubble ar (lo + k) (lo + k - (lo + l))):=chg_bub (by omega) (by omega)
   refine wpS_bind (wpS_modify (wpS_pure ⟨_,rfl,rfl,c.trans c',?_⟩))
   rw [show min (k + 1) n=k + 1 by omega]
   show Up lt (bubble ar (lo + k) (lo + k - (lo + l))) lo (lo + (k + 1))
   intro i j a1 a2 a3
   rw [vat_bub (by omega) (by omega),vat_bub (by omega) (by omega),show lo + k - (lo + k - (lo + l))=lo + l by omega]
   -- where the two lie
   have below:∀ i,lo<=i->i < lo + l->lt (vat ar (lo + k)) (vat ar i)=false:=fun i q1 q2=>by
    have:=b4 (i - lo) (by omega)
    rwa [show lo + (i - lo)=i by omega] at this
   have above:∀ i,lo + l<=i->i < lo + k->lt (vat ar i) (vat ar (lo + k))=false:=fun i q1 q2=>by
    have:=b5 (i - lo) (by omega) (by omega)
    rw [show lo + (i - lo)=i by omega] at this
    exact L.as this
   by_cases ci:i=lo + l
   ·rw [if_pos ci]
    by_cases cj:j=lo + l
    ·rw [if_pos cj]; exact L.irr _
    ·rw [if_neg cj,if_pos (by omega)]; exact above _ (by omega) (by omega)
   ·rw [if_neg ci]
    by_cases ci2:lo + l < i/\i<=lo + k
    ·rw [if_pos ci2,if_neg (by omega),if_pos (by omega)]
     exact u' _ _ (by omega) (by omega) (by omega)
    ·rw [if_neg ci2]
     by_cases cj:j=lo + l
     ·rw [if_pos cj]; exact below _ a1 (by omega)
     ·rw [if_neg cj]
      by_cases cj2:lo + l < j/\j<=lo + k
      ·rw [if_pos cj2]; exact u' _ _ a1 (by omega) (by omega)
      ·rw [if_neg cj2]; exact u' _ _ a1 a2 (by omega)
 ·rintro c st' ⟨ar,rfl,rfl,c,u'⟩
  rw [show min (max (max ok 1) n) n=n by omega] at u'
  exact ⟨ar,rfl,rfl,c,u'⟩
 ·by_cases h0:ok=0
  ·obtain rfl:i=j:=by omega
   exact L.irr _
  ·exact u i j a1 a2 (by omega)
 ·rintro c st' ⟨ar,rfl,rfl,c,u'⟩
  exact wpS_pure (q ar c u')
theorem up_list (h:Up lt arr 0 arr.size):SrtL lt arr.toList:=by
 refine List.pairwise_iff_getElem.mpr fun i j hi hj hij=>?_
 rw [Array.length_toList] at hi hj
 have:=h i j (Nat.zero_le _) (by omega) hj
 unfold vat at this
 rw [Array.getElem?_eq_getElem hi,Array.getElem?_eq_getElem hj] at this
 simpa using this
theorem up_take {n:Nat} (h:Up lt arr 0 n) (hn:n<=arr.size):SrtL lt (arr.toList.take n):=by
 refine List.pairwise_iff_getElem.mpr fun i j hi hj hij=>?_
 rw [List.length_take,Array.length_toList] at hi hj
 have:=h i j (Nat.zero_le _) (by omega) (by omega)
 unfold vat at this
 rw [Array.getElem?_eq_getElem (by omega),Array.getElem?_eq_getElem (by omega)] at this
 simpa using this
theorem up_drop {n:Nat} (h:Up lt arr n arr.size):SrtL lt (arr.toList.drop n):=by
 refine List.pairwise_iff_getElem.mpr fun i j hi hj hij=>?_
 rw [List.length_drop,Array.length_toList] at hi hj
 have:=h (n + i) (n + j) (by omega) (by omega) (by omega)
 unfold vat at this
 rw [Array.getElem?_eq_getElem (by omega),Array.getElem?_eq_getElem (by omega)] at this
 simpa using this
theorem up_keep {arr':Array Keyed} {n:Nat} (c:Chg n arr arr') (h:Up lt arr 0 n):Up lt arr' 0 n:=fun i j a1 a2 a3=>by
 unfold vat
 rw [c.low i (by omega),c.low j a3]
 exact h i j a1 a2 a3
theorem min_run:∀ N,N < 67->2<=N->minRun' N N 0<=N/\N<=2 * minRun' N N 0:=by decide +kernel
theorem second_ok {n N:Nat} {P:ForInStep (Option Unit × Nat)->SortSt->Prop} {g:Nat->Option Unit × Unit->StateT SortSt Sem (ForInStep (Option Unit × Unit))}
  (hg:∀ x,wpS (model prog w) A E s (g x (none,())) (fun r st'=>r=.done (none,())/\st'=SortSt.mk' κ arr #[(0,n,0)] gl none) (SortSt.mk' κ arr #[(0,n,0)] gl none)) {F:Option Unit × Unit->StateT SortSt Sem (ForInStep (Option Unit × Nat))}
  (hF:wpS (model prog w) A E s (F (none,())) P (SortSt.mk' κ arr #[(0,n,0)] gl none)):wpS (model prog w) A E s (forIn [0:N] (none,()) g >>= F) P (SortSt.mk' κ arr #[(0,n,0)] gl none):=by
 refine wpS_bind (wpS_mono (wpS_forRange (I:=fun x c st'=>c=(none,())/\st'=SortSt.mk' κ arr #[(0,n,0)] gl none) (Q:=fun c st'=>c=(none,())/\st'=SortSt.mk' κ arr #[(0,n,0)] gl none) ?_ (fun c st' hh=>hh) ⟨rfl,rfl⟩) ?_)
 ·rintro x c st' _ _ ⟨rfl,rfl⟩
  refine wpS_mono (hg x) ?_
  rintro r st' ⟨rfl,rfl⟩
  exact ⟨rfl,rfl⟩
 ·rintro c st' ⟨rfl,rfl⟩
  exact hF
theorem runs_ok {Q:Unit->SortSt->Prop} (L:LtK lt) (h:AnsK prog w A s κ lt S) (hS:∀ x ∈ arr.toList,S x) {N:Nat} (hz:arr.size=N) (hN:2<=N) (hN2:N < 67)
  (q:∀ st',(arrOf st').toList.Perm arr.toList->SrtL lt (arrOf st').toList->failedOf st'=none->Q () st'):wpS (model prog w) A E s sortRuns' Q (SortSt.mk' κ arr #[] gl none):=by
 rw [sortRuns'_eq]
 refine wpS_bind (wpS_get ?_)
 have hsz:(arrOf (SortSt.mk' κ arr #[] gl none)).size=N:=hz
 obtain ⟨h1,h2⟩:=min_run N hN2 hN
 generalize hmr:minRun' N N 0=mr at h1 h2
 dsimp only
 simp only [hsz,hmr]
 -- the first loop: one or two runs
 refine wpS_bind (wpS_mono (wpS_forRange
  (I:=fun x c st'=>(x=0/\c=(none,0)/\st'=SortSt.mk' κ arr #[] gl none) ∨
   (x=1/\∃ n ar,c=(none,n)/\1<=n/\n<=N/\(n < N->mr<=n)/\Chg 0 arr ar/\Up lt ar 0 n/\st'=SortSt.mk' κ ar #[(0,n,0)] gl none) ∨
   (2<=x/\∃ n ar p,c=(none,N)/\1<=n/\n < N/\Chg 0 arr ar/\Up lt ar 0 n/\Up lt ar n N/\st'=SortSt.mk' κ ar #[(0,n,p),(n,N - n,0)] gl none))
  (Q:=fun c st'=>c=(none,N)/\((∃ ar,Chg 0 arr ar/\Up lt ar 0 N/\st'=SortSt.mk' κ ar #[(0,N,0)] gl none) ∨
   (∃ n ar p,1<=n/\n < N/\Chg 0 arr ar/\Up lt ar 0 n/\Up lt ar n N/\st'=SortSt.mk' κ ar #[(0,n,p),(n,N - n,0)] gl none))) ?_ ?_ (.inl ⟨rfl,rfl,rfl⟩)) ?_)
 ·rintro x c st' _ hx (⟨rfl,rfl,rfl⟩ | ⟨rfl,n,ar,rfl,n1,n2,n3,c,u,rfl⟩ | ⟨hx2,n,ar,p,rfl,n1,n2,c,u1,u2,rfl⟩)
  ·-- the first run
   dsimp only
   rw [if_neg (by omega)]
   simp only [Nat.sub_zero,Nat.zero_add]
   refine wpS_bind (countRun_ok L h hS (by omega) (by omega) ⟨fun m ar m1 m2 c u=>?_⟩)
   dsimp only
   by_cases hm:m < mr
   ·rw [if_pos hm]
    refine wpS_bind (wpS_lift (wpAny_rule ⟨rfl,?_⟩))
    refine wpS_bind (binSort_ok L h (c.mem hS) (by rw [c.size]; omega) (by omega) u fun ar' c' u'=>?_)
    simp only [Bool.not_true,Bool.false_eq_true,if_false]
    refine wpS_bind (wpS_get ?_)
    refine wpS_bind (wpS_modify (wpS_pure (.inr (.inl ⟨by first | rfl | trivial,_,ar',rfl,by omega,by omega,by omega,c.trans c',?_,rfl⟩))))
    simpa using u'
   ·rw [if_neg hm]
    refine wpS_bind (wpS_get ?_)
    refine wpS_bind (wpS_modify (wpS_pure (.inr (.inl ⟨by first | rfl | trivial,m,ar,rfl,by omega,by omega,by omega,c,?_,rfl⟩))))
    simpa using u
  ·-- the second one
   dsimp only
   by_cases hn:n ≥ N
   ·rw [if_pos hn]
    obtain rfl:n=N:=by omega
    exact wpS_pure ⟨rfl,.inl ⟨ar,c,u,rfl⟩⟩
   rw [if_neg hn]
   have za:ar.size=N:=by rw [c.size]; exact hz
   refine wpS_bind (countRun_ok L h (c.mem hS) (by omega) (by omega) ⟨fun m ar2 m1 m2 c2 u2=>?_⟩)
   have z2:ar2.size=N:=by rw [c2.size]; exact za
   dsimp only
   by_cases hm:m < mr
   ·rw [if_pos hm]
    refine wpS_bind (wpS_lift (wpAny_rule ⟨rfl,?_⟩))
    refine wpS_bind (binSort_ok L h (c2.mem (c.mem hS)) (by omega) (by omega) u2 fun ar3 c3 u3=>?_)
    simp only [Bool.not_true,Bool.false_eq_true,if_false]
    rw [show n + min (N - n) mr=N by omega] at u3 ⊢
    rw [show min (N - n) mr=N - n by omega]
    refine wpS_bind (wpS_get ?_)
    rw [show (pendingOf (SortSt.mk' κ ar3 #[(0,n,0)] gl none)).back?=some (0,n,0) from rfl]
    dsimp only
    refine second_ok (fun x=>wpS_bind (wpS_get ?_)) ?_
    ·rw [show (if (pendingOf (SortSt.mk' κ ar3 #[(0,n,0)] gl none)).size > 1 then (pendingOf (SortSt.mk' κ ar3 #[(0,n,0)] gl none))[(pendingOf (SortSt.mk' κ ar3 #[(0,n,0)] gl none)).size - 2]? else none)=none from rfl]
     exact wpS_pure ⟨rfl,rfl⟩
    ·exact wpS_bind (wpS_modify (wpS_bind (wpS_modify (wpS_pure (.inr (.inr ⟨by omega,n,ar3,power' N (2 * 0 + n) (2 * 0 + n + n + (N - n)) N,by first | rfl | (show (none,n + _)=_; congr 1; omega),n1,by omega,c.trans ⟨(c2.trans c3).prm,fun k hk=>by omega⟩,up_keep (c2.trans c3) u,u3,rfl⟩))))))
   ·rw [if_neg hm]
    obtain rfl:m=N - n:=by omega
    rw [show n + (N - n)=N by omega] at u2 ⊢
    refine wpS_bind (wpS_get ?_)
    rw [show (pendingOf (SortSt.mk' κ ar2 #[(0,n,0)] gl none)).back?=some (0,n,0) from rfl]
    dsimp only
    refine second_ok (fun x=>wpS_bind (wpS_get ?_)) ?_
    ·rw [show (if (pendingOf (SortSt.mk' κ ar2 #[(0,n,0)] gl none)).size > 1 then (pendingOf (SortSt.mk' κ ar2 #[(0,n,0)] gl none))[(pendingOf (SortSt.mk' κ ar2 #[(0,n,0)] gl none)).size - 2]? else none)=none from rfl]
     exact wpS_pure ⟨rfl,rfl⟩
    ·exact wpS_bind (wpS_modify (wpS_bind (wpS_modify (wpS_pure (.inr (.inr ⟨by omega,n,ar2,power' N (2 * 0 + n) (2 * 0 + n + n + (N - n)) N,by first | rfl | (show (none,n + _)=_; congr 1; omega),n1,by omega,c.trans ⟨c2.prm,fun k hk=>by omega⟩,up_keep c2 u,u2,rfl⟩))))))
  ·dsimp only
   rw [if_pos (by omega)]
   exact wpS_pure ⟨rfl,.inr ⟨n,ar,p,n1,n2,c,u1,u2,rfl⟩⟩
 ·rintro c st' (⟨hx,_⟩ | ⟨hx,_⟩ | ⟨hx2,n,ar,p,rfl,n1,n2,c,u1,u2,rfl⟩)
  ·omega
  ·omega
  ·exact ⟨rfl,.inr ⟨n,ar,p,n1,n2,c,u1,u2,rfl⟩⟩
 ·rintro c st' ⟨rfl,(⟨ar,c,u,rfl⟩ | ⟨n,ar,p,n1,n2,c,u1,u2,rfl⟩)⟩
  ·have za:ar.size=N:=by rw [c.size]; exact hz
   dsimp only
   refine wpS_bind (wpS_mono (wpS_forRange (I:=fun _ c st'=>c=(none,())/\st'=SortSt.mk' κ ar #[(0,N,0)] gl none) (Q:=fun c st'=>c=(none,())/\st'=SortSt.mk' κ ar #[(0,N,0)] gl none) ?_ (fun c st' hh=>hh) ⟨rfl,rfl⟩) ?_)
   ·rintro x c st' _ _ ⟨rfl,rfl⟩
    refine wpS_bind (wpS_get ?_)
    rw [if_pos (show (pendingOf (SortSt.mk' κ ar #[(0,N,0)] gl none)).size<=1 from Nat.le_refl 1)]
    exact wpS_pure ⟨rfl,rfl⟩
   ·rintro c st' ⟨rfl,rfl⟩
    exact wpS_pure (q _ (Array.perm_iff_toList_perm.mp c.prm) (up_list (by rw [za]; exact u)) rfl)
  ·have za:ar.size=N:=by rw [c.size]; exact hz
   dsimp only
   refine wpS_bind (wpS_mono (wpS_forRange (I:=fun x c st'=>c=(none,())/\((x=0/\st'=SortSt.mk' κ ar #[(0,n,p),(n,N - n,0)] gl none)\/(1<=x/\(arrOf st').toList.Perm ar.toList/\SrtL lt (arrOf st').toList/\failedOf st'=none/\(pendingOf st').size=1)))
    (Q:=fun c st'=>c=(none,())/\(arrOf st').toList.Perm ar.toList/\SrtL lt (arrOf st').toList/\failedOf st'=none) ?_ ?_ ⟨rfl,.inl ⟨rfl,rfl⟩⟩) ?_)
   ·rintro x c st' _ _ ⟨rfl,(⟨rfl,rfl⟩ | ⟨hx,a1,a2,a3,a4⟩)⟩
    ·refine wpS_bind (wpS_get ?_)
     rw [if_neg (show ¬ (pendingOf (SortSt.mk' κ ar #[(0,n,p),(n,N - n,0)] gl none)).size<=1 from (by decide:¬ 2<=1))]
     refine wpS_bind (mergeAt_ok L h (c.mem hS) n1 (by omega) (by omega) (up_take u1 (by omega)) (up_drop (by rw [za]; exact u2)) fun st' a1 a2 a3 a4=>?_)
     exact wpS_pure ⟨rfl,.inr ⟨by omega,a1,a2,a3,a4⟩⟩
    ·refine wpS_bind (wpS_get ?_)
     rw [if_pos (by rw [a4]; exact Nat.le_refl 1)]
     exact wpS_pure ⟨rfl,a1,a2,a3⟩
   ·rintro c st' ⟨rfl,(⟨hx,_⟩ | ⟨hx,a1,a2,a3,a4⟩)⟩
    ·omega
    ·exact ⟨rfl,a1,a2,a3⟩
   ·rintro c' st' ⟨rfl,a1,a2,a3⟩
    exact wpS_pure (q _ (a1.trans (Array.perm_iff_toList_perm.mp c.prm)) a2 a3)
end
end M
namespace M
open PySem PySem.W PySem.Spec PyProof.Rows L2

section
variable {prog:Program} {w:World} {A:Around} {E:Value->Shared->Prop} {s:Shared}
theorem zip_self2 {vs:List Value} (_:vs.length < 2):(vs.toArray.zip vs.toArray).map (·.2)=vs.toArray:=by
 rw [List.zip_toArray,List.map_toArray]
 exact congrArg _ (List.map_snd_zip (Nat.le_refl _))
theorem list_sort_short {a:Addr} {vs:List Value} {n:Nat} {P:PySem.Fin->Shared->Prop} (ho:s.heap.get? a=some (seqObj "list" vs.toArray n)) (h2:vs.length < 2)
  (h:P (.done (.ret .none)) { s with heap:=sortedHeap s.heap a vs vs.toArray }):wpAny (model prog w) A (Builtin.«list.sort» ⟨[.ref a],[]⟩) P E s:=by
 rw [list_sort_plain]
 have ha:a < s.heap.objs.size:=Heap.lt_size ho
 refine wpAny_bind (listItems_at ho rfl ?_)
 refine wpAny_bind (listUpdate_at ho rfl ?_ (by rw [List.size_toArray,sizeLine_eq]; omega) (Nat.zero_le _))
 obtain ⟨e1,ho1⟩:∃ e1,(s.heap.update a (Obj.mapSeq fun _=>#[])).get? a=some (seqObj "list" #[] e1):=⟨_,get?_update_seq ho (fun _=>#[])⟩
 refine wpAny_bind (seqEpoch_at ho1 rfl ?_)
 refine wpAny_bind (wpAny_newTuple ?_ (by show vs.length<=_; rw [sizeLine_eq]; omega))
 refine wpAny_bind (wpAny_newList ?_ (Nat.zero_le _))
 refine wpAny_holding ?_
 have ho6:(((s.heap.update a (Obj.mapSeq fun _=>#[])).push (seqObj "tuple" vs.toArray 0)).push (seqObj "list" #[] 0)).get? a=some (seqObj "list" #[] e1):=by
  rw [Heap.get?_push_ne _ _ _ (by rw [size_push',Heap.size_update]; exact Nat.ne_of_lt (Nat.lt_succ_of_lt ha)),Heap.get?_push_ne _ _ _ (by rw [Heap.size_update]; exact Nat.ne_of_lt ha)]
  exact ho1
 show wpAny (model prog w) A _ P E { s with heap:=((s.heap.update a (Obj.mapSeq fun _=>#[])).push (seqObj "tuple" vs.toArray 0)).push (seqObj "list" #[] 0) }
 dsimp only
 have h2':vs.toArray.size < 2:=by simpa using h2
 rw [if_pos h2',if_pos h2']
 refine wpAny_bind (wpAny_pure ?_)
 rw [StateT.run_pure]
 refine wpAny_bind (wpAny_pure ?_)
 dsimp only
 refine wpAny_bind (seqEpoch_at ho6 rfl ?_)
 have hout:(arrOf (SortSt.mk' general' (vs.toArray.zip vs.toArray) #[] 7 none)).map (·.2)=vs.toArray:=by
  exact zip_self2 h2
 refine wpAny_bind (listUpdate_at ho6 rfl ?_ (Nat.zero_le _) (by rw [hout,List.size_toArray,sizeLine_eq]; omega))
 simp only [bne_self_eq_false,Bool.false_eq_true,if_false]
 rw [hout]
 exact wpAny_pure h
theorem sorted_short {l:Addr} {vs:List Value} {Q:Value->Shared->Prop} (hl:s.heap.IsList l vs.toArray) (h2:vs.length < 2)
  (h:Q (.ref (s.heap.objs.size + 1)) { s with heap:=sortedAll s.heap vs vs.toArray }):wpAny (model prog w) A (call (.builtin "sorted") [.ref l]) Q E s:=by
 refine Calls.call_function_entry kind_sorted plain_sorted entry_sorted (args_sorted1 _) ?_
 unfold Builtin.«sorted»
 refine wpAny_bind (m:=checkCount "sorted" 1 1 _) (wpAny_pure ?_)
 refine wpAny_bind (collect_list hl ?_ (by rw [sizeLine_eq]; omega))
 refine wpAny_bind (wpAny_newList ?_ (by rw [sizeLine_eq]; omega))
 have hsz:((s.heap.push (seqObj "list" #[] 0)).update s.heap.objs.size (Obj.mapSeq (·++vs.toArray))).objs.size=s.heap.objs.size + 1:=by
  rw [Heap.size_update,size_push']
 have hoL:(((s.heap.push (seqObj "list" #[] 0)).update s.heap.objs.size (Obj.mapSeq (·++vs.toArray))).push (seqObj "list" vs.toArray 0)).get? (s.heap.objs.size + 1)=some (seqObj "list" vs.toArray 0):=by
  rw [<-hsz]; exact Heap.get?_push_size _ rfl
 show wpAny _ _ _ _ _ { s with heap:=((s.heap.push (seqObj "list" #[] 0)).update s.heap.objs.size (Obj.mapSeq (·++vs.toArray))).push (seqObj "list" vs.toArray 0) }
 rw [hsz]
 refine wpAny_bind (wpAny_holding (wpAny_call_entry slot_list_sort ⟨_,hoL,rfl⟩ entry_list_sort (list_sort_short hoL h2 ⟨_,rfl,?_⟩) (args_list_sort _)))
 exact wpAny_pure ⟨_,rfl,h⟩
end

section
variable {prog:Program} {w:World} {A:Around} {E:Value->Shared->Prop} {s:Shared}
theorem list_sortN {a:Addr} {vs:List Value} {n:Nat} {P:PySem.Fin->Shared->Prop} {κ:SortKind} {lt:Keyed->Keyed->Bool} {S:Keyed->Prop} (ho:s.heap.get? a=some (seqObj "list" vs.toArray n)) (h2:2<=vs.length) (h67:vs.length < 67) (L:LtK lt) (hS:∀ x ∈ (vs.toArray.zip vs.toArray).toList,S x)
  (hk:∀ h1:Heap,(∀ b o,b ≠ a->s.heap.get? b=some o->h1.get? b=some o)->(∀ Q:SortKind->Shared->Prop,Q κ { s with heap:=h1 }->wpAny (model prog w) A (keyKind' vs.toArray) Q (fun _ _=>False) { s with heap:=h1 })/\AnsK prog w A { s with heap:=h1 } κ lt S)
  (h:∀ arr:Array Keyed,arr.toList.Perm (vs.toArray.zip vs.toArray).toList->SrtL lt arr.toList->P (.done (.ret .none)) { s with heap:=sortedHeap s.heap a vs (arr.map (·.2)) }):wpAny (model prog w) A (Builtin.«list.sort» ⟨[.ref a],[]⟩) P E s:=by
 rw [list_sort_plain]
 have ha:a < s.heap.objs.size:=Heap.lt_size ho
 refine wpAny_bind (listItems_at ho rfl ?_)
 refine wpAny_bind (listUpdate_at ho rfl ?_ (by rw [List.size_toArray,sizeLine_eq]; omega) (Nat.zero_le _))
 obtain ⟨e1,ho1⟩:∃ e1,(s.heap.update a (Obj.mapSeq fun _=>#[])).get? a=some (seqObj "list" #[] e1):=⟨_,get?_update_seq ho (fun _=>#[])⟩
 refine wpAny_bind (seqEpoch_at ho1 rfl ?_)
 refine wpAny_bind (wpAny_newTuple ?_ (by show vs.length<=_; rw [sizeLine_eq]; omega))
 refine wpAny_bind (wpAny_newList ?_ (Nat.zero_le _))
 refine wpAny_holding ?_
 have ho6:(((s.heap.update a (Obj.mapSeq fun _=>#[])).push (seqObj "tuple" vs.toArray 0)).push (seqObj "list" #[] 0)).get? a=some (seqObj "list" #[] e1):=by
  rw [Heap.get?_push_ne _ _ _ (by rw [size_push',Heap.size_update]; exact Nat.ne_of_lt (Nat.lt_succ_of_lt ha)),Heap.get?_push_ne _ _ _ (by rw [Heap.size_update]; exact Nat.ne_of_lt ha)]
  exact ho1
 have old6:∀ b o,b ≠ a->s.heap.get? b=some o->(((s.heap.update a (Obj.mapSeq fun _=>#[])).push (seqObj "tuple" vs.toArray 0)).push (seqObj "list" #[] 0)).get? b=some o:=fun b o hb e=>by
  have hlt:=Heap.lt_size e
  rw [Heap.get?_push_ne _ _ _ (by rw [size_push',Heap.size_update]; exact Nat.ne_of_lt (Nat.lt_succ_of_lt hlt)),Heap.get?_push_ne _ _ _ (by rw [Heap.size_update]; exact Nat.ne_of_lt hlt),Heap.get?_update_ne _ _ _ _ hb]
  exact e
 obtain ⟨k1,k2⟩:=hk _ old6
 show wpAny (model prog w) A _ P E { s with heap:=((s.heap.update a (Obj.mapSeq fun _=>#[])).push (seqObj "tuple" vs.toArray 0)).push (seqObj "list" #[] 0) }
 dsimp only
 have h2':¬ vs.toArray.size < 2:=by rw [List.size_toArray]; omega
 rw [if_neg h2',if_neg h2']
 refine wpAny_bind (wpAny_mono (k1 (fun κ' s'=>κ'=κ/\s'=_) ⟨rfl,rfl⟩) (fun κ' s' hk'=>?_) fun _ _ x=>x.elim)
 obtain ⟨rfl,rfl⟩:=hk'
 refine wpAny_bind (wpAny_mono (runs_ok (E:=E) (Q:=fun _ st'=>(arrOf st').toList.Perm (vs.toArray.zip vs.toArray).toList/\SrtL lt (arrOf st').toList/\failedOf st'=none) L k2 hS (N:=vs.length) (by simp) h2 h67 fun st' a1 a2 a3=>⟨a1,a2,a3⟩) ?_ fun _ _ x=>x)
 rintro ⟨⟨⟩,st'⟩ s' ⟨rfl,a1,a2,a3⟩
 dsimp only
 have hsz:((arrOf st').map (·.2)).size=vs.length:=by
  rw [Array.size_map,<-Array.length_toList,a1.length_eq]; simp
 refine wpAny_bind (seqEpoch_at ho6 rfl ?_)
 refine wpAny_bind (listUpdate_at ho6 rfl ?_ (Nat.zero_le _) (by rw [hsz,sizeLine_eq]; omega))
 rw [a3]
 simp only [bne_self_eq_false,Bool.false_eq_true,if_false]
 exact wpAny_pure (h _ a1 a2)
theorem sortedN {l:Addr} {vs:List Value} {Q:Value->Shared->Prop} {κ:SortKind} {lt:Keyed->Keyed->Bool} {S:Keyed->Prop} (hl:s.heap.IsList l vs.toArray) (h2:2<=vs.length) (h67:vs.length < 67) (L:LtK lt) (hS:∀ x ∈ (vs.toArray.zip vs.toArray).toList,S x)
  (hk:∀ (A:Around) (h1:Heap),(∀ b o,s.heap.get? b=some o->h1.get? b=some o)->(∀ Q:SortKind->Shared->Prop,Q κ { s with heap:=h1 }->wpAny (model prog w) A (keyKind' vs.toArray) Q (fun _ _=>False) { s with heap:=h1 })/\AnsK prog w A { s with heap:=h1 } κ lt S)
  (h:∀ arr:Array Keyed,arr.toList.Perm (vs.toArray.zip vs.toArray).toList->SrtL lt arr.toList->Q (.ref (s.heap.objs.size + 1)) { s with heap:=sortedAll s.heap vs (arr.map (·.2)) }):wpAny (model prog w) A (call (.builtin "sorted") [.ref l]) Q E s:=by
 refine Calls.call_function_entry kind_sorted plain_sorted entry_sorted (args_sorted1 _) ?_
 unfold Builtin.«sorted»
 refine wpAny_bind (m:=checkCount "sorted" 1 1 _) (wpAny_pure ?_)
 refine wpAny_bind (collect_list hl ?_ (by rw [sizeLine_eq]; omega))
 refine wpAny_bind (wpAny_newList ?_ (by rw [sizeLine_eq]; omega))
 have hsz:((s.heap.push (seqObj "list" #[] 0)).update s.heap.objs.size (Obj.mapSeq (·++vs.toArray))).objs.size=s.heap.objs.size + 1:=by
  rw [Heap.size_update,size_push']
 have hoL:(((s.heap.push (seqObj "list" #[] 0)).update s.heap.objs.size (Obj.mapSeq (·++vs.toArray))).push (seqObj "list" vs.toArray 0)).get? (s.heap.objs.size + 1)=some (seqObj "list" vs.toArray 0):=by
  rw [<-hsz]; exact Heap.get?_push_size _ rfl
 have old:∀ b o,s.heap.get? b=some o->(((s.heap.push (seqObj "list" #[] 0)).update s.heap.objs.size (Obj.mapSeq (·++vs.toArray))).push (seqObj "list" vs.toArray 0)).get? b=some o:=fun b o e=>by
  have hlt:=Heap.lt_size e
  rw [Heap.get?_push_ne _ _ _ (by rw [hsz]; exact Nat.ne_of_lt (Nat.lt_succ_of_lt hlt)),Heap.get?_update_ne _ _ _ _ (Nat.ne_of_lt hlt),Heap.get?_push_ne _ _ _ (Nat.ne_of_lt hlt)]
  exact e
 show wpAny _ _ _ _ _ { s with heap:=((s.heap.push (seqObj "list" #[] 0)).update s.heap.objs.size (Obj.mapSeq (·++vs.toArray))).push (seqObj "list" vs.toArray 0) }
 rw [hsz]
 refine wpAny_bind (wpAny_holding (wpAny_call_entry slot_list_sort ⟨_,hoL,rfl⟩ entry_list_sort (list_sortN hoL h2 h67 L hS (fun h1 keep=>hk _ h1 fun b o e=>keep b o (fun z=>?_) (old b o e)) fun arr a1 a2=>⟨_,rfl,?_⟩) (args_list_sort _)))
 ·have hlt:=Heap.lt_size e
  rw [z] at hlt
  exact absurd hlt (Nat.not_lt.mpr (Nat.le_succ _))
 ·exact wpAny_pure ⟨_,rfl,h arr a1 a2⟩
end
theorem perm_lift {α β:Type} {f:α->β}:∀ {l₁ l₂:List β},l₁.Perm l₂->∀ m:List α,l₂=m.map f->∃ m':List α,m'.Perm m/\l₁=m'.map f:=by
 intro l₁ l₂ h
 induction h with
 | nil=>intro m e; exact ⟨m,List.Perm.refl _,e⟩
 | cons x _ ih =>
  intro m e
  cases m with
  | nil=>cases e
  | cons y m =>
   obtain ⟨e1,e2⟩:=List.cons.inj e
   subst e1
   obtain ⟨m',h1,rfl⟩:=ih m e2
   exact ⟨y :: m',h1.cons y,rfl⟩
 | swap x y l =>
  intro m e
  match m,e with
  | a :: b :: m,e =>
   obtain ⟨e1,e2⟩:=List.cons.inj e
   obtain ⟨e3,e4⟩:=List.cons.inj e2
   subst e1 e3 e4
   exact ⟨b :: a :: m,List.Perm.swap _ _ _,rfl⟩
 | trans _ _ ih1 ih2 =>
  intro m e
  obtain ⟨m1,p1,e1⟩:=ih2 m e
  obtain ⟨m2,p2,e2⟩:=ih1 m1 e1
  exact ⟨m2,p2.trans p1,e2⟩
theorem lexLt_irr:∀ a:List Int,HT.lexLt a a=false
 | []=>rfl
 | x :: xs=>by rw [HT.lexLt_cons,if_pos rfl]; exact lexLt_irr xs
theorem lexLt_as:∀ {a b:List Int},HT.lexLt a b=true->HT.lexLt b a=false
 | [],[],h=>by cases h
 | [],_ :: _,_=>rfl
 | _ :: _,[],h=>by cases h
 | x :: xs,y :: ys,h=>by
  rw [HT.lexLt_cons] at h ⊢
  by_cases e:x=y
  ·rw [if_pos e] at h; rw [if_pos e.symm]; exact lexLt_as h
  ·rw [if_neg e] at h
   rw [if_neg (Ne.symm e)]
   have:=of_decide_eq_true h
   exact decide_eq_false (by omega)
theorem lexLt_tr:∀ {a b c:List Int},HT.lexLt b a=false->HT.lexLt c b=false->HT.lexLt c a=false
 | a,b,[],h1,h2=>by
  cases b with
  | nil=>exact h1
  | cons y ys=>cases h2
 | [],b,z :: zs,h1,h2=>rfl
 | x :: xs,[],z :: zs,h1,h2=>by cases h1
 | x :: xs,y :: ys,z :: zs,h1,h2=>by
  rw [HT.lexLt_cons] at h1 h2 ⊢
  by_cases e1:y=x
  ·rw [if_pos e1] at h1
   subst e1
   by_cases e2:z=y
   ·rw [if_pos e2] at h2 ⊢; exact lexLt_tr h1 h2
   ·rw [if_neg e2] at h2 ⊢; exact h2
  ·rw [if_neg e1] at h1
   have q1:=of_decide_eq_false h1
   by_cases e2:z=y
   ·subst e2; rw [if_neg e1]; exact h1
   ·rw [if_neg e2] at h2
    have q2:=of_decide_eq_false h2
    rw [if_neg (by omega)]
    exact decide_eq_false (by omega)
theorem lexLt_eq:∀ {a b:List Int},HT.lexLt a b=false->HT.lexLt b a=false->a=b
 | [],[],_,_=>rfl
 | [],_ :: _,h,_=>by cases h
 | _ :: _,[],_,h=>by cases h
 | x :: xs,y :: ys,h1,h2=>by
  rw [HT.lexLt_cons] at h1 h2
  by_cases e:x=y
  ·rw [if_pos e] at h1; rw [if_pos e.symm] at h2
   rw [e,lexLt_eq h1 h2]
  ·rw [if_neg e] at h1; rw [if_neg (Ne.symm e)] at h2
   have q1:=of_decide_eq_false h1
   have q2:=of_decide_eq_false h2
   omega
noncomputable def insK (k:List Int):List (List Int)->List (List Int)
 | []=>[k]
 | j :: r=>if HT.lexLt j k=true then j :: insK k r else k :: j :: r
noncomputable def sortK:List (List Int)->List (List Int)
 | []=>[]
 | k :: r=>insK k (sortK r)
noncomputable def Asc (l:List (List Int)):Prop:=l.Pairwise fun a b=>HT.lexLt b a=false
theorem insK_perm (k:List Int):∀ l,(insK k l).Perm (k :: l)
 | []=>List.Perm.refl _
 | j :: r=>by
  unfold insK
  split
  ·exact (List.Perm.cons j (insK_perm k r)).trans (List.Perm.swap k j r)
  ·exact List.Perm.refl _
theorem sortK_perm:∀ l,(sortK l).Perm l
 | []=>List.Perm.refl _
 | k :: r=>(insK_perm k (sortK r)).trans (List.Perm.cons k (sortK_perm r))
theorem insK_asc (k:List Int):∀ {l},Asc l->Asc (insK k l)
 | [],_=>List.Pairwise.cons (fun _ h=>by simp at h) List.Pairwise.nil
 | j :: r,h=>by
  unfold Asc at h
  rw [List.pairwise_cons] at h
  unfold insK
  split
  ·rename_i c
   refine List.Pairwise.cons (fun b hb=>?_) (insK_asc k h.2)
   rcases List.mem_cons.mp ((insK_perm k r).mem_iff.mp hb) with rfl | hb
   ·exact lexLt_as c
   ·exact h.1 b hb
  ·rename_i c
   have c:HT.lexLt j k=false:=by simpa using c
   refine List.Pairwise.cons (fun b hb=>?_) (List.Pairwise.cons h.1 h.2)
   rcases List.mem_cons.mp hb with rfl | hb
   ·exact c
   ·exact lexLt_tr c (h.1 b hb)
theorem sortK_asc:∀ l,Asc (sortK l)
 | []=>List.Pairwise.nil
 | k :: r=>insK_asc k (sortK_asc r)
theorem asc_unique:∀ {a b:List (List Int)},Asc a->Asc b->a.Perm b->a=b
 | [],b,_,_,p=>(List.Perm.nil_eq p)
 | x :: xs,[],_,_,p=>by have:=p.length_eq; simp at this
 | x :: xs,y :: ys,ha,hb,p=>by
  unfold Asc at ha hb
  rw [List.pairwise_cons] at ha hb
  have e:x=y:=by
   have hx:x ∈ y :: ys:=p.mem_iff.mp List.mem_cons_self
   have hy:y ∈ x :: xs:=p.mem_iff.mpr List.mem_cons_self
   rcases List.mem_cons.mp hx with h | h
   ·exact h
   rcases List.mem_cons.mp hy with h' | h'
   ·exact h'.symm
   ·exact lexLt_eq (hb.1 x h) (ha.1 y h') |>.symm ▸ rfl
  subst e
  rw [asc_unique ha.2 hb.2 (List.Perm.cons_inv p)]
theorem sortK_unique {a b:List (List Int)} (ha:Asc a) (p:a.Perm b):a=sortK b:=asc_unique ha (sortK_asc b) (p.trans (sortK_perm b).symm)

section
variable {X:Cx}
noncomputable def TupAt (H:Hp) (y:V) (k:List Int):Prop:=∃ a,y=.ref a/\H a=some (.tup (k.map V.int))
noncomputable def rSorted (K:PySem.W.Frag):List V->Hp->VK->Prop:=fun xs H Q=>∃ (p:Addr) (ys:List V) (ks:List (List Int)),xs=[.ref p]/\SqL K H p ys/\Paired (TupAt H) ys ks/\(∀ k ∈ ks,k ≠ [])/\ks.length < 67 ∧
 ∀ l outs,H l=none->(∀ o ∈ outs,o ∈ ys)->Paired (TupAt H) outs (sortK ks)->Q (.ref l) (upd H l (.lst outs))
theorem paired_get {α β:Type} {F:α->β->Prop}:∀ {xs:List α} {ys:List β},Paired F xs ys->∀ (i:Nat) (x:α),xs[i]?=some x->∃ y,ys[i]?=some y/\F x y
 | _,_,.nil,i,x,h=>by simp at h
 | _,_,.cons r t,0,x,h=>by simp at h; subst h; exact ⟨_,rfl,r⟩
 | _,_,.cons r t,i + 1,x,h=>by
  obtain ⟨y,e,f⟩:=paired_get t i x (by simpa using h)
  exact ⟨y,by simpa using e,f⟩
theorem paired_map {α β:Type} {F:α->β->Prop} (xs:List α) (ys:List β) (dx:α) (dy:β) (h:Paired F xs ys):∀ (p:List Nat),(∀ i ∈ p,i < xs.length)->Paired F (p.map fun i=>xs.getD i dx) (p.map fun i=>ys.getD i dy)
 | [],_=>.nil
 | i :: r,hp=>by
  have hi:=hp i List.mem_cons_self
  obtain ⟨y,e,f⟩:=paired_get h i xs[i] (by simp [hi])
  refine .cons ?_ (paired_map xs ys dx dy h r fun j hj=>hp j (List.mem_cons_of_mem _ hj))
  dsimp only
  rw [List.getD_eq_getElem?_getD,List.getD_eq_getElem?_getD,e,List.getElem?_eq_getElem hi]
  exact f
theorem intItems {pins:List (Addr × Obj)} {σ:St} {H:Hp} {s:Shared} {y:V} {u:Value} {k:List Int} (I:Inv X pins σ H s) (h:TupAt H y k) (r:RelV y u):∃ a its,u=.ref a/\H a=some (.tup (k.map V.int))/\IsTup s.heap a its.toArray/\IntsAre its k:=by
 obtain ⟨a,rfl,ha⟩:=h
 cases r
 obtain ⟨its,rv,ht,hz⟩:=I.tuple (SqT.of ha)
 exact ⟨a,its,rfl,ha,ht,intsAre_of rv⟩
theorem lex_wp {prog:Program} {w:World} {A:Around} {s:Shared} {Q:Bool->Shared->Prop}:∀ (us us':List Value) (k k':List Int) (i:Nat),IntsAre us k->IntsAre us' k'->Q (HT.lexLt k k') s->∀ n n':Nat,n + k'.length=n' + k.length->KatLex prog w A true (decide (n < n')) Q (us.zip us') i s
 | [],us',k,k',i,h,h',hq,n,n',e=>by
  cases h
  rw [List.zip_nil_left]
  refine kat_nil ?_
  cases h' with
  | nil=>simp only [List.length_nil] at e; rw [HT.lexLt_nil_nil] at hq; rw [decide_eq_false (by omega)]; exact hq
  | cons c u hw=>simp only [List.length_nil,List.length_cons] at e; rw [HT.lexLt_nil_cons] at hq; rw [decide_eq_true (by omega)]; exact hq
 | u :: us,[],k,k',i,h,h',hq,n,n',e=>by
  cases h'
  rw [List.zip_nil_right]
  refine kat_nil ?_
  cases h with
  | cons c t hw=>simp only [List.length_nil,List.length_cons] at e; rw [HT.lexLt_cons_nil] at hq; rw [decide_eq_false (by omega)]; exact hq
 | u :: us,u' :: us',k,k',i,h,h',hq,n,n',e=>by
  cases h with
  | cons c t hw =>
   cases h' with
   | cons c' t' hw' =>
    rw [List.zip_cons_cons]
    rw [HT.lexLt_cons] at hq
    refine kat_cons (SeqAt.EqAt.int_int c t c' t' prog w _ _ ?_)
    by_cases ec:c=c'
    ·rw [if_pos ec] at hq
     rw [beq_iff_eq.mpr ec]
     exact kat_yes (lex_wp us us' _ _ (i + 1) hw hw' hq n n' (by simp only [List.length_cons] at e; omega))
    ·rw [if_neg ec] at hq
     rw [beq_eq_false_iff_ne.mpr ec]
     refine kat_no ?_
     by_cases hi:i=0
     ·subst hi; exact oneLt_int hq
     ·have:(true && i == 0)=false:=by simp [hi]
      rw [this]
      exact kat_one _ _ (PyProof.Rows.lt_int hq)
theorem katTups_of {pins:List (Addr × Obj)} {σ:St} {H:Hp} {s:Shared} (I:Inv X pins σ H s) {h:Heap} (keep:∀ b o u,H b=some u->s.heap.get? b=some o->h.get? b=some o):∀ {ys:List V} {us:List Value} {ks:List (List Int)},Paired (TupAt H) ys ks->Vals ys us->(∀ k ∈ ks,k ≠ []) →
  ∃ fs:List Value,KatTups h us fs/\fs.length=us.length/\∀ f ∈ fs,∃ i t,f=.int i t
 | _,_,_,.nil,.nil,_=>⟨[],KatTups.nil,rfl,fun f hf=>by simp at hf⟩
 | _,_,_,.cons t r,.cons v q,ne=>by
  obtain ⟨fs,h1,h2,h3⟩:=katTups_of I keep r q fun k hk=>ne k (List.mem_cons_of_mem _ hk)
  obtain ⟨a,its,rfl,hH,⟨o,e,c,n,d⟩,hi⟩:=intItems I t v
  cases hi with
  | nil=>exact absurd rfl (ne _ List.mem_cons_self)
  | cons i tk hw =>
   refine ⟨.int i tk :: fs,KatTups.cons (keep _ _ _ hH e) c d (by simp) h1,by simp [h2],fun f hf=>?_⟩
   rcases List.mem_cons.mp hf with rfl | hf
   ·exact ⟨i,tk,rfl⟩
   ·exact h3 f hf
theorem objOk_there {P:Program} {w:World} {H:Hp} {h:Heap} {a:Addr} {o:HO} (x:ObjOk P w H h a o):∃ ob,h.get? a=some ob:=by
 cases o with
 | lst xs=>obtain ⟨_,_,_,_,e⟩:=x; exact ⟨_,e⟩
 | tup xs=>obtain ⟨_,_,_,ob,e,_⟩:=x; exact ⟨_,e⟩
 | dK kvs=>obtain ⟨_,_,_,_,o,_,_,e,_⟩:=x; exact ⟨_,e⟩
 | dT kvs=>obtain ⟨_,_,_,_,o,_,_,e,_⟩:=x; exact ⟨_,e⟩
 | set S n=>obtain ⟨o,_,_,_,e,_⟩:=x; exact ⟨_,e⟩
 | ins C dx fs=>obtain ⟨_,_,_,e,_⟩:=x; exact ⟨_,e⟩
 | own y=>obtain ⟨_,e⟩:=x; exact ⟨_,e⟩
 | xd fs=>obtain ⟨_,⟨_,_,_,e,_⟩,_⟩:=x; exact ⟨_,e⟩
 | rng lo hi=>obtain ⟨_,_,_,e⟩:=x; exact ⟨_,e⟩
 | frz ob u=>obtain ⟨e,_⟩:=x; exact ⟨_,e⟩
 | tbl ps=>exact ⟨_,(show h.get? a=some _ from x)⟩
 | met f y=>exact ⟨_,(show h.get? a=some _ from x)⟩
 | ext φ=>obtain ⟨_,⟨_,e⟩,_⟩:=x; exact ⟨_,e⟩
theorem ledgerLaid {pins:List (Addr × Obj)} {σ:St} {H:Hp} {s s':Shared} {m:Str->Option Value} {D:Addr} {o:HO} (I:Inv X pins σ H s) (F:Fr X.base X.env.locals s.heap m) (F':Fr X.base X.env.locals s'.heap m)
  (keep:∀ b o,b ≠ X.env.locals->s.heap.get? b=some o->s'.heap.get? b=some o) (nD:s.heap.get? D=none) (new:ObjOk X.prog X.w (upd H D o) s'.heap D o) (os:s'.os=s.os) (bare:AllBare s'.gens):Inv X pins σ (upd H D o) s':=by
 obtain ⟨h',g',d',t',o'⟩:=s'
 have e:o'=s.os:=os
 subst e
 have neD:∀ b ob,s.heap.get? b=some ob->b ≠ D:=fun b ob e z=>by subst z; rw [nD] at e; cases e
 have hD:H D=none:=by
  cases q:H D with
  | none=>rfl
  | some u=>obtain ⟨ob,e⟩:=objOk_there (I.hok D u q); rw [nD] at e; cases e
 have neL:∀ b u,H b=some u->b ≠ X.env.locals:=fun b u e z=>by rw [z,I.free] at e; cases e
 refine I.step (g':=g') (d':=d') (t':=t') (ch:=[]) (fun b hb=>by simp at hb) (fun b ob hL _ _ e _=>keep b ob hL e) (fun b ob hL _ _ e _=>⟨ob.slots,keep b ob hL e⟩) (fun b ob _ e n=>by rw [upd_ne (neD b ob e)]; exact n)
  (fun b ob _ e=>?_) (fun b xs e=>by rw [upd_ne (ne_of_none e hD)]; exact e) (fun b u xs e=>by rw [upd_ne (ne_of_none e hD)]; exact e) (fun b ps e=>⟨#[],by rw [upd_ne (ne_of_none e hD),e]; simp⟩) (fun m' hm=>?_) (fun b u e=>?_) bare
 ·by_cases hb:b=X.env.locals
  ·obtain ⟨ob',_,_,e',_⟩:=F'.ns
   exact ⟨ob',by rw [hb]; exact e'⟩
  ·exact ⟨ob,keep b ob hb e⟩
 ·have:m'=m:=by
   obtain ⟨o1,es1,ep1,a1,a2,a3,a4⟩:=hm
   obtain ⟨o2,es2,ep2,b1,b2,b3,b4⟩:=F.ns
   rw [a1] at b1; cases b1
   rw [a2] at b2; cases b2
   funext x; rw [<-a4 x,<-b4 x]
  rw [this]; exact F'.ns
 ·by_cases hb:b=D
  ·subst hb; rw [upd_same] at e; cases e; exact new
  ·rw [upd_ne hb] at e
   refine (I.hok b u e).stay (fun c v hc q=>keep c v ?_ q) (fun c q=>by rw [upd_ne (ne_of_none q hD)]; exact q) fun c xs q=>by rw [upd_ne (ne_of_none q hD)]; exact q
   rcases hc with z | z
   ·rw [z]; exact neL b u e
   ·exact neL c _ z
theorem coreN {pins:List (Addr × Obj)} {σ:St} {H:Hp} {s:Shared} {ys:List V} {its:List Value} {ks:List (List Int)} (I:Inv X pins σ H s) (pk:Paired (TupAt H) ys ks) (rv:Vals ys its) (ne:∀ k ∈ ks,k ≠ []) (h2:2<=its.length) :
  ∃ (κ:SortKind) (lt:Keyed->Keyed->Bool) (S:Keyed->Prop),LtK lt/\(∀ x ∈ (its.toArray.zip its.toArray).toList,S x) ∧
   (∀ (A:Around) (s':Shared),(∀ b o u,H b=some u->s.heap.get? b=some o->s'.heap.get? b=some o)->(∀ Q:SortKind->Shared->Prop,Q κ s'->wpAny (model X.prog X.w) A (keyKind' its.toArray) Q (fun _ _=>False) s')/\AnsK X.prog X.w A s' κ lt S) ∧
   ∀ arr:Array Keyed,arr.toList.Perm (its.toArray.zip its.toArray).toList->SrtL lt arr.toList->∃ outs,(∀ o ∈ outs,o ∈ ys)/\Paired (TupAt H) outs (sortK ks)/\Vals outs (arr.map (·.2)).toList:=by
 have l1:its.length=ks.length:=by rw [<-rv.length]; exact Paired.length pk
 have hys:ys.length=its.length:=rv.length
 -- each thing and its key
 have key:∀ i,i < its.length->∃ a,its.getD i .none=.ref a/\H a=some (.tup ((ks.getD i []).map V.int)):=fun i hi=>by
  have hyl:i < ys.length:=by omega
  obtain ⟨k,ek,tk⟩:=paired_get pk i (ys[i]'hyl) (by simp [hyl])
  obtain ⟨u,eu,ru⟩:=rv.get (i:=i) (x:=ys[i]'hyl) (by simp [hyl])
  obtain ⟨a,ea,hH⟩:=tk
  rw [ea] at ru
  cases ru
  exact ⟨a,by rw [List.getD_eq_getElem?_getD,eu]; rfl,by rw [List.getD_eq_getElem?_getD,ek]; exact hH⟩
 classical
 let kof:Value->List Int:=fun v=>if h:∃ i,i < its.length/\its.getD i .none=v then ks.getD (Classical.choose h) [] else []
 have kofe:∀ i,i < its.length->kof (its.getD i .none)=ks.getD i []:=fun i hi=>by
  have h:∃ j,j < its.length/\its.getD j .none=its.getD i .none:=⟨i,hi,rfl⟩
  show (if h:∃ j,j < its.length/\its.getD j .none=its.getD i .none then ks.getD (Classical.choose h) [] else [])=_
  rw [dif_pos h]
  obtain ⟨c1,c2⟩:=Classical.choose_spec h
  obtain ⟨a,e1,e2⟩:=key _ c1
  obtain ⟨a',e1',e2'⟩:=key i hi
  rw [c2,e1'] at e1
  cases e1
  rw [e2'] at e2
  have inj:∀ (p q:List Int),p.map V.int=q.map V.int->p=q:=fun p q e=>by
   induction p generalizing q with
   | nil=>cases q with
    | nil=>rfl
    | cons _ _=>cases e
   | cons x p ih=>cases q with
    | nil=>cases e
    | cons y q =>
     obtain ⟨h1,h2⟩:=List.cons.inj e
     cases h1
     rw [ih q h2]
  have e3:(ks.getD i []).map V.int=(ks.getD (Classical.choose h) []).map V.int:=by
   injection (Option.some.inj e2)
  exact (inj _ _ e3).symm
 have zip:(its.toArray.zip its.toArray).toList=(List.range its.length).map fun i=>(its.getD i .none,its.getD i .none):=by
  rw [List.zip_toArray]
  refine List.ext_getElem (by simp) fun i h1 h2=>?_
  have hi:i < its.length:=by simpa using h2
  simp [hi]
 refine ⟨tuples' (Value.type "int" != Value.type "tuple"),fun x y=>HT.lexLt (kof x.1) (kof y.1),fun x=>∃ i,i < its.length/\x=(its.getD i .none,its.getD i .none),⟨fun a=>lexLt_irr _,fun h1 h2=>lexLt_tr h1 h2,fun h=>lexLt_as h⟩,fun x hx=>?_,fun A s' keep=>⟨fun Q hQ=>?_,fun x y Q hx hy hQ=>?_⟩,fun arr hp hs=>?_⟩
 ·rw [zip] at hx
  obtain ⟨i,hi,rfl⟩:=List.mem_map.mp hx
  exact ⟨i,by simpa using hi,rfl⟩
 ·obtain ⟨fs,kt,lf,fi⟩:=katTups_of I (h:=s'.heap) keep pk rv ne
  exact kat_kind (T:=.type "int") kt (by omega) (fun v hv=>by obtain ⟨i,t,rfl⟩:=fi v hv; exact Looks.of_pure rfl) (by first | rfl | decide) hQ
 ·obtain ⟨i,hi,rfl⟩:=hx
  obtain ⟨j,hj,rfl⟩:=hy
  dsimp only at hQ ⊢
  rw [kofe i hi,kofe j hj] at hQ
  have at':∀ i,i < its.length->∃ a ws,its.getD i .none=.ref a/\IsTup s'.heap a ws.toArray/\IntsAre ws (ks.getD i []):=fun i hi=>by
   have hyl:i < ys.length:=by omega
   obtain ⟨k,ek,tk⟩:=paired_get pk i (ys[i]'hyl) (by simp [hyl])
   obtain ⟨u,eu,ru⟩:=rv.get (i:=i) (x:=ys[i]'hyl) (by simp [hyl])
   obtain ⟨a,ws,e1,hH,⟨o,g1,g2,g3⟩,g4⟩:=intItems I tk ru
   exact ⟨a,ws,by rw [List.getD_eq_getElem?_getD,eu,e1]; rfl,⟨o,keep _ _ _ hH g1,g2,g3⟩,by rw [List.getD_eq_getElem?_getD,ek]; exact g4⟩
  obtain ⟨a,ws,e1,⟨o,g1,g2,n,g3⟩,g4⟩:=at' i hi
  obtain ⟨a',ws',e1',⟨o',g1',g2',n',g3'⟩,g4'⟩:=at' j hj
  rw [e1,e1']
  have la:=g4.length
  have la':=g4'.length
  refine kat_lt g1 g3 g1' g3' ?_
  exact lex_wp ws ws' _ _ 0 g4 g4' hQ _ _ (by simp only [List.size_toArray]; omega)
 ·obtain ⟨p,hp',ea⟩:=perm_lift hp _ zip
  have hpl:∀ i ∈ p,i < its.length:=fun i hi=>by simpa using hp'.mem_iff.mp hi
  refine ⟨p.map fun i=>ys.getD i .non,fun o ho=>?_,?_,?_⟩
  ·obtain ⟨i,hi,rfl⟩:=List.mem_map.mp ho
   have hi':i < ys.length:=by rw [hys]; exact hpl i hi
   rw [List.getD_eq_getElem?_getD,List.getElem?_eq_getElem hi']
   exact List.getElem_mem hi'
  ·have esort:(p.map fun i=>ks.getD i [])=sortK ks:=by
    refine sortK_unique ?_ ?_
    ·unfold Asc
     rw [ea] at hs
     unfold SrtL at hs
     rw [List.pairwise_map] at hs ⊢
     refine List.Pairwise.imp_of_mem (fun {a b} ha hb hab=>?_) hs
     dsimp only at hab
     rwa [kofe a (hpl a ha),kofe b (hpl b hb)] at hab
    ·have e2:(List.range its.length).map (fun i=>ks.getD i [])=ks:=by rw [l1]; exact range_getD ks []
     have:=hp'.map (fun i=>ks.getD i [])
     rw [e2] at this
     exact this
   rw [<-esort]
   exact paired_map ys ks .non [] pk p fun i hi=>by rw [hys]; exact hpl i hi
  ·have:(arr.map (·.2)).toList=p.map fun i=>its.getD i Value.none:=by
    rw [Array.toList_map,ea,List.map_map]; rfl
   rw [this]
   exact paired_map ys its .non .none rv p fun i hi=>by rw [hys]; exact hpl i hi
theorem call_sorted:CallR X (.builtin "sorted") (rSorted X.K):=by
 intro pins s σ H xs us Q I r h
 obtain ⟨p,ys,ks,rfl,hp,pk,ne,h64,q⟩:=h
 obtain ⟨u,rfl,ru⟩:=vals1 r
 cases ru
 obtain ⟨its,rv,pl,hz⟩:=I.list hp
 have l1:its.length=ks.length:=by rw [<-rv.length]; exact Paired.length pk
 by_cases h2:its.length < 2
 ·refine sorted_short pl.isList h2 ?_
  obtain ⟨e,hat⟩:=sortedAll_at s.heap its its.toArray
  have hs:Paired (TupAt H) ys (sortK ks):=by
   have:sortK ks=ks:=by
    match ks,l1 ▸ h2 with
    | [],_=>rfl
    | [_],_=>rfl
   rw [this]; exact pk
  refine ⟨.ref (s.heap.objs.size + 1),_,I.laid (a:=s.heap.objs.size + 1) (o:=.lst ys) (t':=s.toks) (fun b o e=>sortedAll_old e) (Nat.le_succ _) ⟨hz,its,e,rv,hat⟩,rfl,q _ ys (I.hok.fresh (Nat.le_succ _)) (fun _ h=>h) hs⟩
 obtain ⟨κ,lt,S,c1,c2,c3,c4⟩:=coreN I pk rv ne (by omega)
 refine sortedN pl.isList (by omega) (by omega) c1 c2 (fun A h1 keep=>c3 A _ fun b o u _ e=>keep b o e) fun arr a1 a2=>?_
 obtain ⟨outs,o1,o2,o3⟩:=c4 arr a1 a2
 obtain ⟨e,hat⟩:=sortedAll_at s.heap its (arr.map (·.2))
 have ls:(arr.map (·.2)).toList.length=its.length:=by rw [Array.length_toList,Array.size_map,<-Array.length_toList,a1.length_eq]; simp
 have lo:outs.length=its.length:=by rw [o3.length]; exact ls
 exact ⟨.ref (s.heap.objs.size + 1),_,I.laid (a:=s.heap.objs.size + 1) (o:=.lst outs) (t':=s.toks) (fun b o e=>sortedAll_old e) (Nat.le_succ _) ⟨by rw [lo,<-rv.length]; exact hz,_,e,o3,by rw [Array.toArray_toList]; exact hat⟩,rfl,q _ outs (I.hok.fresh (Nat.le_succ _)) o1 o2⟩
end
end M

set_option Elab.async false
set_option linter.all false
set_option maxRecDepth 100000
namespace M
open PySem PySem.W PySem.Spec PyProof.Rows L2

noncomputable def RawD (h:Heap) (d:Addr) (es:Array DictEntry) (ep:Nat):Prop:=∃ o,h.get? d=some o/\o.ExactDict/\o.data=.dict es ep
section
variable {prog:Program} {w:World} {A:Around} {E:Value->Shared->Prop} {s:Shared} {d it:Addr} {es:Array DictEntry} {ep:Nat}
theorem RawD.type (x:RawD s.heap d es ep):s.TypeIs (.ref d) "dict":=by obtain ⟨o,h1,h2,_⟩:=x; exact ⟨o,h1,h2.1⟩
theorem RawD.at {h h':Heap} (x:RawD h d es ep) (e:∀ o,h.get? d=some o->h'.get? d=some o):RawD h' d es ep:=by obtain ⟨o,h1,r⟩:=x; exact ⟨o,e o h1,r⟩
theorem RawD.lt {h:Heap} (x:RawD h d es ep):d < h.objs.size:=by obtain ⟨o,h1,_⟩:=x; exact Heap.lt_size h1
theorem raw_iter {Q:Value->Shared->Prop} (hd:(d == sysModules)=false) (x:RawD s.heap d es ep)
  (q:Q (.ref s.heap.objs.size) { s with heap:=s.heap.push { cls:=.type "dict_keyiterator",data:=.fields #[.ref d,.int 0 0,.int es.size 0,.int ep 0] } }):wpAny (model prog w) A (pyIter (.ref d)) Q E s:=by
 have hT:=x.type
 obtain ⟨o,ho,hc,hdat⟩:=x
 refine wpAny_pyIter_slot hT F.slot_dict_iter (wpAny_call_entry F.slot_dict_iter hT F.entry_dict_iter ?_ (F.args_dict_iter_1 _))
 unfold Builtin.«dict.__iter__»
 refine wpAny_bind ?_
 unfold Builtin.Dict.dictSlotNone
 refine wpAny_bind (wpAny_notOrdered_dict hT (show wpAny _ _ (pure (Value.ref d)) _ _ s from wpAny_pure ?_))
 show wpAny _ _ (Builtin.Dict.showsAll d >>= _) _ _ s
 unfold Builtin.Dict.showsAll
 rw [hd,if_neg Bool.false_ne_true]
 refine wpAny_bind (wpAny_pure (wpAny_bind (wpAny_dictEntries ho hdat (wpAny_bind (wpAny_dictEpoch ho hdat ?_)))))
 refine wpAny_bind (wpAny_newObj_type (wpAny_pure ⟨_,rfl,"dict_keyiterator",_,⟨_,Heap.get?_push_size _ rfl,rfl⟩,F.slot_dict_keyiterator_next.lookup,?_⟩))
 simpa [rawInt] using q
theorem raw_next {i:Nat} {e:DictEntry} {Q:Option Value->Shared->Prop} (hit:s.heap.IsKeyIter it d i es.size ep) (x:RawD s.heap d es ep) (hx:es[i]?=some e)
  (q:∀ h',h'.IsKeyIter it d (i + 1) es.size ep->Heap.SameBut it s.heap h'->Q (some e.key) { s with heap:=h' }):wpAny (model prog w) A (pyNext (.ref it)) Q E s:=by
 obtain ⟨o,ho,hc,hd⟩:=id hit
 obtain ⟨od,hod,hcd,hdd⟩:=x
 have ht:=hit.typeIs
 unfold pyNext
 refine wpAny_bind (wpAny_attempt (wpAny_callSpecial?_slot (name:=Str.ofString "__next__") ht F.slot_dict_keyiterator_next
  (wpAny_call_entry F.slot_dict_keyiterator_next ht F.entry_dict_keyiterator_next ?_ (F.args_dict_keyiterator_next_1 _))))
 refine wpAny_bind (wpAny_pure (wpAny_bind (wpAny_bind ?_)))
 first | refine wpAny_bind (wpAny_typeNameOfWhole_keyiter ht (wpAny_pure ?_)) | refine wpAny_bind (wpAny_typeNameOf_keyiter ht (wpAny_pure ?_))
 refine wpAny_bind (wpAny_fieldsOf ho hd ?_)
 simp only [show Builtin.Dict_items.ownsTuple "dict_keyiterator"=false by decide,Bool.false_eq_true,if_false]
 show wpAny _ _ (if (Value.ref d == Value.none)=true then _ else _) _ _ s
 rw [if_neg (show ¬ ((Value.ref d == Value.none)=true) from Bool.false_ne_true)]
 refine wpAny_bind (wpAny_pure (wpAny_bind (wpAny_dictEntries hod hdd ?_)))
 rw [if_neg (by simp)]
 refine wpAny_bind (wpAny_pure (wpAny_bind (wpAny_dictEpoch hod hdd ?_)))
 rw [if_neg (by simp)]
 refine wpAny_pure ?_
 simp only [show ¬ ((i:Int) < 0) from by omega,if_false,Int.toNat_natCast,hx]
 refine wpAny_bind ?_
 first | refine wpAny_bind (wpAny_typeNameOfWhole_keyiter ht (wpAny_pure ?_)) | refine wpAny_bind (wpAny_typeNameOf_keyiter ht (wpAny_pure ?_))
 refine wpAny_bind (wpAny_isOneOf_keyiter ht ?_)
 show wpAny _ _ (setField (.ref it) 1 (rawInt ((i:Int) + 1)) >>= _) _ _ s
 refine wpAny_bind (wpAny_setField ho hd (by simp) ?_)
 have hit':(s.heap.update it (Obj.mapFields (·.setIfInBounds 1 (rawInt ((i:Int) + 1))))).IsKeyIter it d (i + 1) es.size ep :=
  ⟨_,Heap.get?_update_self _ ho (Obj.isFreed_of_fields (Obj.data_mapFields hd _)),(Obj.cls_mapFields ..).trans hc,by rw [Obj.data_mapFields hd]; simp [rawInt]⟩
 refine wpAny_bind (wpAny_holding (wpAny_bind (wpAny_isOneOf_keyiter (s:={ s with heap:=s.heap.update it (Obj.mapFields (·.setIfInBounds 1 (rawInt ((i:Int) + 1)))) }) hit'.typeIs ?_)))
 show wpAny _ _ (pure e.key) _ _ _
 exact wpAny_pure (wpAny_pure ⟨_,rfl,wpAny_pure (q _ hit' (Heap.SameBut.update ..))⟩)
theorem raw_end {i:Nat} {Q:Option Value->Shared->Prop} (hh:A.handled=none) (hit:s.heap.IsKeyIter it d i es.size ep) (x:RawD s.heap d es ep) (hx:es[i]?=none) (q:∀ h',Heap.ExtBut it s.heap h'->Q none { s with heap:=h' }):wpAny (model prog w) A (pyNext (.ref it)) Q E s:=by
 obtain ⟨o,ho,hc,hd⟩:=id hit
 obtain ⟨od,hod,hcd,hdd⟩:=x
 have ht:=hit.typeIs
 unfold pyNext
 refine wpAny_bind (wpAny_attempt (wpAny_callSpecial?_slot (name:=Str.ofString "__next__") ht F.slot_dict_keyiterator_next
  (wpAny_call_entry F.slot_dict_keyiterator_next ht F.entry_dict_keyiterator_next ?_ (F.args_dict_keyiterator_next_1 _))))
 refine wpAny_bind (wpAny_pure (wpAny_bind (wpAny_bind ?_)))
 first | refine wpAny_bind (wpAny_typeNameOfWhole_keyiter ht (wpAny_pure ?_)) | refine wpAny_bind (wpAny_typeNameOf_keyiter ht (wpAny_pure ?_))
 refine wpAny_bind (wpAny_fieldsOf ho hd ?_)
 simp only [show Builtin.Dict_items.ownsTuple "dict_keyiterator"=false by decide,Bool.false_eq_true,if_false]
 show wpAny _ _ (if (Value.ref d == Value.none)=true then _ else _) _ _ s
 rw [if_neg (show ¬ ((Value.ref d == Value.none)=true) from Bool.false_ne_true)]
 refine wpAny_bind (wpAny_pure (wpAny_bind (wpAny_dictEntries hod hdd ?_)))
 rw [if_neg (by simp)]
 refine wpAny_bind (wpAny_pure (wpAny_bind (wpAny_dictEpoch hod hdd ?_)))
 rw [if_neg (by simp)]
 refine wpAny_pure ?_
 simp only [show ¬ ((i:Int) < 0) from by omega,if_false,Int.toNat_natCast,hx]
 refine wpAny_bind ?_
 first | refine wpAny_bind (wpAny_typeNameOfWhole_keyiter ht (wpAny_pure ?_)) | refine wpAny_bind (wpAny_typeNameOf_keyiter ht (wpAny_pure ?_))
 show wpAny _ _ (setField (.ref it) 0 .none >>= _) _ _ s
 refine wpAny_bind (wpAny_setField ho hd (by simp) ?_)
 show wpAny _ _ (newExc (.type "StopIteration") [] >>= _) _ _ _
 refine wpAny_bind ?_
 simp only [newExc,newTuple]
 refine wpAny_bind (wpAny_newObj_type ?_ (by size_fits))
 refine wpAny_bind (m:=firstArgMember _ _) (wpAny_of_eq (a:=Value.none) (by first | rfl | (simp only [firstArgMember]; rfl)) (wpAny_newObj_type ?_ (by size_fits)))
 simp only [raiseNew]
 refine wpAny_bind (wpAny_handled ?_)
 rw [show A.in1.handled=none from hh]
 refine wpAny_bind (wpAny_pure (wpAny_throw ?_))
 refine wpAny_bind (wpAny_isInstance (T:="StopIteration") (b:=true) ⟨_,Heap.get?_push_size _ rfl,rfl⟩ isSubtype_stop ?_)
 exact wpAny_pure (q _ (((Heap.SameBut.update ..).extBut.push _).push _))
theorem raw_walks (hh:A.handled=none) (I d:Addr) (hne:d ≠ I) (es:Array DictEntry) (ep:Nat) :
  Walks prog w A I [I,d] [I] es.size (fun i v=>∃ e,es[i]?=some e/\v=e.key) (fun i h=>h.IsKeyIter I d i es.size ep/\RawD h d es ep) where
 sub:=fun b hb=>by simp at hb; simp [hb]
 frame:=fun _ _ _ st hk=>⟨st.1.at fun o e=>hk I (by simp) o e,st.2.at fun o e=>hk d (by simp) o e⟩
 item:=fun i s Q E hi st hQ=>raw_next st.1 st.2 (e:=es[i]) (by simp [hi]) fun h' hit' hs'=>hQ _ h' s.toks ⟨_,by simp [hi],rfl⟩ ⟨hit',st.2.at fun o e=>hs'.extBut d o hne e⟩ fun b o hb e=>hs'.extBut b o (fun h=>hb (by simp [h])) e
 done:=fun s Q E st hQ=>raw_end hh st.1 st.2 (by simp) fun h' he'=>hQ h' s.toks fun b o hb e=>he' b o (fun h=>hb (by simp [h])) e
 self:=fun _ _ _ _ st hQ=>wpAny_pyIter_keyiter st.1 hQ
theorem raw_src (lo:(d == sysModules)=false):KdlSrc prog w "dict" d d es.size (fun i v=>∃ e,es[i]?=some e/\v=e.key) (fun h=>RawD h d es ep) where
 type:=fun _ hm=>hm.type
 there:=fun _ hm=>⟨hm.lt,hm.lt⟩
 keep:=fun _ _ hm hk=>hm.at fun o e=>hk d (.inl rfl) o e
 notList:=by decide
 notTuple:=by decide
 hint:=fun _ _ _ _ hm hq=>kdl_hint_dict hm.type hq
 iter:=fun _ _ hh hm=>⟨_,_,(fun _ _ hq=>raw_iter lo hm hq),raw_walks hh _ d (Nat.ne_of_lt hm.lt) es ep,⟨⟨_,Heap.get?_push_size _ rfl,rfl,rfl⟩,hm.at fun o e=>Heap.get?_push_of_some _ e⟩⟩
end
theorem raw_of {X:Cx} {pins:List (Addr × Obj)} {σ:St} {H:Hp} {s:Shared} {a:Addr} {kvs:List (List Key × V)} (I:Inv X pins σ H s) (h:Rd H a (.dT kvs)) :
  (a == sysModules)=false/\kvs.length<=sizeLine/\∃ es ep,RawD s.heap a es ep/\es.size=kvs.length/\∀ (i:Nat) (e:DictEntry),es[i]?=some e->∃ k v b,kvs[i]?=some (k,v)/\e.key=.ref b/\H b=some (.tup (k.map kV)):=by
 obtain ⟨z,y,xs,r,o,es,ep,h1,h2,h3,h4,h5⟩:=(show ObjOk X.prog X.w H s.heap a (.dT kvs) from h.elim (fun h=>I.hok a _ h) fun ⟨_,h⟩=>(show _/\_ from I.hok a _ h).2)
 have l:es.size=kvs.length:=by
  have:=congrArg List.length h4
  simp only [Array.length_toList,List.length_map] at this
  rw [this]; exact (Paired.length r).symm
 refine ⟨y,z,es,ep,⟨o,h1,h2,h3⟩,l,fun i e he=>?_⟩
 have he':es.toList[i]?=some e:=by simpa using he
 rw [h4,List.getElem?_map] at he'
 cases q:xs[i]? with
 | none=>rw [q] at he'; cases he'
 | some p =>
  rw [q] at he'
  cases he'
  have hi:i < kvs.length:=by rw [<-l]; exact (Array.getElem?_eq_some_iff.mp he).1
  obtain ⟨p',e1,e2,e3,e4⟩:=paired_get r i kvs[i] (by simp [hi])
  rw [q] at e1; cases e1
  exact ⟨kvs[i].1,kvs[i].2,p.2.1,by simp [hi],rfl,e3⟩
end M

set_option Elab.async false
set_option linter.all false
set_option maxRecDepth 100000
namespace M
open PySem PySem.Spec PyProof.Rows L2

section
variable {X:Cx} {G:Fc} {a b c:Expr} {ma mb mc:EV} {pos:Pos}
theorem hu0 (gd:Gd X):X.A.units < cLine:=by have:=gd.un; omega
theorem hu1 (gd:Gd X):X.A.units + 1 < cLine:=by have:=gd.un; omega
theorem hu4 (gd:Gd X):X.A.units + 4 < cLine:=by have:=gd.un; omega
theorem hx_of {G G':Fc} (e:G'.xc=G.xc) (hx:∀ c,¬ G.xc c):∀ c,¬ G'.xc c:=by rw [e]; exact hx
theorem gd_in {scope:Scope} {s3:Shared} {H3:Hp} {fp:List Addr} {C:Addr} (gd:Gd X):Gd (cxc X scope s3 H3 fp C):=⟨gd.calm,PassesOwn.never,gd.nd,gd.un⟩
theorem sf_add (ha:SE X G a ma) (hb:SE X G b mb):SF X G (.BinOp a .Add b pos) (e2 fAdd ma mb):=sf_bin op_add3 od_add ha hb
theorem sf_sub (ha:SE X G a ma) (hb:SE X G b mb):SF X G (.BinOp a .Sub b pos) (e2 fSub ma mb):=sf_bin op_sub od_sub ha hb
theorem sf_mul (ha:SE X G a ma) (hb:SE X G b mb):SF X G (.BinOp a .Mult b pos) (e2 fMul ma mb):=sf_bin op_mul od_mul ha hb
theorem sf_div (ha:SE X G a ma) (hb:SE X G b mb):SF X G (.BinOp a .FloorDiv b pos) (e2 fDiv ma mb):=sf_bin op_fdiv od_div ha hb
theorem sf_mod (ha:SE X G a ma) (hb:SE X G b mb):SF X G (.BinOp a .Mod b pos) (e2 fMod ma mb):=sf_bin op_mod od_mod ha hb
theorem sf_at (ha:SE X G a ma) (hb:SE X G b mb) (hs:PlainIx b:=by intro _ _; rfl):SF X G (.Subscript a b pos) (e2 fIx ma mb):=sf_ix hs ix_seq od_ix ha hb
theorem sf_dg (gd:Gd X) (ha:SE X G a ma) (hb:SE X G b mb) (hs:NoSl b:=by intro _ _; rfl):SF X G (.Subscript a b pos) (e2 fDget ma mb):=sf_dget (hu1 gd) ha hb hs
theorem sf_lt (gd:Gd X) (ha:SE X G a ma) (hb:SE X G b mb):SF X G (.Compare a [.Lt] [b] pos) (e2 fLt ma mb):=sf_cmp (op_lt2 (hu0 gd)) od_lt ha hb (nomark _)
theorem sf_eq (gd:Gd X) (ha:SE X G a ma) (hb:SE X G b mb):SF X G (.Compare a [.Eq] [b] pos) (e2 fEq ma mb):=sf_cmp (op_eqD (hu4 gd)) od_eq ha hb (nomark _)
theorem sf_ne (gd:Gd X) (ha:SE X G a ma) (hb:SE X G b mb):SF X G (.Compare a [.NotEq] [b] pos) (e2 fNe ma mb):=sf_cmp (op_neD (hu4 gd)) od_ne ha hb (nomark _)
theorem sf_in (gd:Gd X) (ha:SE X G a ma) (hb:SE X G b mb) (hm:behindInMarks .In b=false:=by with_unfolding_all rfl):SF X G (.Compare a [.In] [b] pos) (e2 fIn ma mb):=sf_cmp (op_inD (hu4 gd)) od_in ha hb hm
theorem st_lt (gd:Gd X) (ha:SE X G a ma) (hb:SE X G b mb):ST X G (.Compare a [.Lt] [b] pos) (tstB (e2 fLt ma mb)):=st_cmp (op_lt2 (hu0 gd)) od_lt ha hb (nomark _)
theorem st_gt (gd:Gd X) (ha:SE X G a ma) (hb:SE X G b mb):ST X G (.Compare a [.Gt] [b] pos) (tstB (e2 fGt ma mb)):=st_cmp op_gt od_gt ha hb (nomark _)
theorem st_eq (gd:Gd X) (ha:SE X G a ma) (hb:SE X G b mb):ST X G (.Compare a [.Eq] [b] pos) (tstB (e2 fEq ma mb)):=st_cmp (op_eqD (hu4 gd)) od_eq ha hb (nomark _)
theorem st_ne (gd:Gd X) (ha:SE X G a ma) (hb:SE X G b mb):ST X G (.Compare a [.NotEq] [b] pos) (tstB (e2 fNe ma mb)):=st_cmp (op_neD (hu4 gd)) od_ne ha hb (nomark _)
noncomputable def RdF (X:Cx) (G:Fc) (m:EV):TE:=fun σ H Q=>∃ E,Rel X.K G E σ H/\Fin (m E) (fun d=>∀ v H',Same H H'->Rp X.K H' (Ow G.pr E σ) d v->Q v H') G.xc
theorem RdF.test {m:EV} {σ:St} {H:Hp} {Q:Bool->Hp->Prop} (h:∃ E,Rel X.K G E σ H/\Fin (tstB m E) (fun b=>∀ H',Same H H'->Q b H') G.xc):RdF X G m σ H fun x H1=>∃ k,x=.bl k/\Q k H1:=by
 obtain ⟨E,hr,f⟩:=h
 refine ⟨E,hr,(Fin.bind f).mono fun d p v H' s z=>?_⟩
 cases d with
 | bl k=>exact ⟨k,z,p H' s⟩
 | _=>exact p.elim
theorem din_imp {m:EV} {mi mo:EV} (hm:m=e2 fDin mi mo) (σ:St) (H:Hp) (Q:VK) (h:RdF X G m σ H Q) :
  tDIn (fun σ H Q=>∃ E,Rel X.K G E σ H/\Fin (mi E) (fun d=>∀ v H',Same H H'->Rt X.K H' (Ow G.pr E σ) d v->Q v H') G.xc) (fun σ H Q=>∃ E,Rel X.K G E σ H/\Fin (mo E) (fun d=>∀ v H',Same H H'->Rt X.K H' (Ow G.pr E σ) d v->Q v H') G.xc) σ H Q:=by
 subst hm
 obtain ⟨E,hr,f⟩:=h
 refine ⟨E,hr,(Fin.bind f).mono fun dx fx v H1 s1 p1=>⟨E,hr.same s1,(Fin.bind fx).mono fun dy fy w H2 s2 p2=>?_⟩⟩
 obtain ⟨d,e,p⟩:=Fin.of fy
 cases dy with
 | dic kvs =>
  simp only [fDin,Option.map_eq_some_iff] at e
  obtain ⟨ks,e1,rfl⟩:=e
  obtain ⟨b,rfl,hb⟩:=key_of' e1 (p1.mono s2 fun _ z=>z)
  obtain ⟨a,ws,rfl,ha,rk⟩:=p2.dic
  obtain ⟨o,g1,g2⟩:=dget_is rk ha hb
  refine ⟨a,o,rfl,g1,?_⟩
  rw [g2]
  exact p _ H2 (s1.trans s2) (by unfold Rp; rfl)
 | _=>cases e
theorem dnotin_imp {m:EV} {mi mo:EV} (hm:m=e2 fDnotIn mi mo) (σ:St) (H:Hp) (Q:VK) (h:RdF X G m σ H Q) :
  tDNotIn (fun σ H Q=>∃ E,Rel X.K G E σ H/\Fin (mi E) (fun d=>∀ v H',Same H H'->Rt X.K H' (Ow G.pr E σ) d v->Q v H') G.xc) (fun σ H Q=>∃ E,Rel X.K G E σ H/\Fin (mo E) (fun d=>∀ v H',Same H H'->Rt X.K H' (Ow G.pr E σ) d v->Q v H') G.xc) σ H Q:=by
 subst hm
 obtain ⟨E,hr,f⟩:=h
 refine ⟨E,hr,(Fin.bind f).mono fun dx fx v H1 s1 p1=>⟨E,hr.same s1,(Fin.bind fx).mono fun dy fy w H2 s2 p2=>?_⟩⟩
 obtain ⟨d,e,p⟩:=Fin.of fy
 cases dy with
 | dic kvs =>
  simp only [fDnotIn,Option.map_eq_some_iff] at e
  obtain ⟨ks,e1,rfl⟩:=e
  obtain ⟨b,rfl,hb⟩:=key_of' e1 (p1.mono s2 fun _ z=>z)
  obtain ⟨a,ws,rfl,ha,rk⟩:=p2.dic
  obtain ⟨o,g1,g2⟩:=dget_is rk ha hb
  refine ⟨a,o,rfl,g1,?_⟩
  rw [g2]
  exact p _ H2 (s1.trans s2) (by unfold Rp; rfl)
 | _=>cases e
theorem st_din (gd:Gd X) (ha:SE X G a ma) (hb:SE X G b mb) (hm:behindInMarks .In b=false:=by with_unfolding_all rfl):ST X G (.Compare a [.In] [b] pos) (tstB (e2 fDin ma mb)) :=
 (pt_cmp (pc_din (hu1 gd) ha hb) hm).imp fun σ H Q h=>din_imp rfl σ H _ (RdF.test h)
theorem st_dnotin (gd:Gd X) (ha:SE X G a ma) (hb:SE X G b mb) (hm:behindInMarks .NotIn b=false:=by with_unfolding_all rfl):ST X G (.Compare a [.NotIn] [b] pos) (tstB (e2 fDnotIn ma mb)) :=
 (pt_cmp (pc_dnotin (hu1 gd) ha hb) hm).imp fun σ H Q h=>dnotin_imp rfl σ H _ (RdF.test h)
noncomputable def fNeg:D->Option D
 | .int i=>some (.int (-i))
 | _=>none
noncomputable def eCh (f g:D->D->Option D) (ma mb mc:EV):EV:=fun E=>ma E >>= fun x=>mb E >>= fun y=>ofO (f x y) >>= fun t=>match t with
 | .bl true=>mc E >>= fun z=>ofO (g y z)
 | .bl false=>.ok (.bl false)
 | _=>.no
structure ChOk (X:Cx) (op:CmpOp) (r:R2) (f:D->D->Option D):Prop where
 o:OpR X (compareOp op) r
 d:OpD X.K r f
theorem ch_lt:ChOk X .Lt (rI0 fun i j=>.bl (decide (i < j))) (fun x y=>match x,y with | .int i,.int j=>some (.bl (decide (i < j))) | _,_=>none):=⟨op_lt,od_int0 (g:=fun i j=>.bl (decide (i < j))) (fun dx dy d e=>by
 cases dx with
 | int i=>cases dy with
  | int j=>cases e; exact ⟨i,j,rfl,rfl,rfl⟩
  | _=>cases e
 | _=>cases e) fun i j H O=>by unfold Rp; rfl⟩
theorem ch_le:ChOk X .LtE (rI0 fun i j=>.bl (decide (i<=j))) fLe:=⟨op_le,od_le⟩
noncomputable def fLtI:D->D->Option D
 | .int i,.int j=>some (.bl (decide (i < j)))
 | _,_=>none
theorem ch_ltI:ChOk X .Lt (rI0 fun i j=>.bl (decide (i < j))) fLtI:=⟨op_lt,od_int0 (g:=fun i j=>.bl (decide (i < j))) (fun dx dy d e=>by
 cases dx with
 | int i=>cases dy with
  | int j=>cases e; exact ⟨i,j,rfl,rfl,rfl⟩
  | _=>cases e
 | _=>cases e) fun i j H O=>by unfold Rp; rfl⟩
theorem ch_imp {r r':R2} {f g:D->D->Option D} (hf:OpD X.K r f) (hg:OpD X.K r' g) (σ:St) (H:Hp) (Q:VK) (h:RdF X G (eCh f g ma mb mc) σ H Q) :
  tChain r r' (fun σ H Q=>∃ E,Rel X.K G E σ H/\Fin (ma E) (fun d=>∀ v H',Same H H'->Rt X.K H' (Ow G.pr E σ) d v->Q v H') G.xc)
   (fun σ H Q=>∃ E,Rel X.K G E σ H/\Fin (mb E) (fun d=>∀ v H',Same H H'->Rt X.K H' (Ow G.pr E σ) d v->Q v H') G.xc)
   (fun σ H Q=>∃ E,Rel X.K G E σ H/\Fin (mc E) (fun d=>∀ v H',Same H H'->Rt X.K H' (Ow G.pr E σ) d v->Q v H') G.xc) σ H Q:=by
 obtain ⟨E,hr,f0⟩:=h
 refine ⟨E,hr,(Fin.bind f0).mono fun dx fx v H1 s1 p1=>⟨E,hr.same s1,(Fin.bind fx).mono fun dy fy w H2 s2 p2=>?_⟩⟩
 have ft:=Fin.bind fy
 obtain ⟨d,e,p⟩:=Fin.of ft
 refine hf H2 _ dx dy d v w _ (hr.same (s1.trans s2)).sane e (rt_grow p1 s2) p2 fun u H3 s3 z=>?_
 cases d with
 | bl k =>
  cases k with
  | false=>exact ⟨false,z,p _ H3 ((s1.trans s2).trans s3) (by unfold Rp; rfl)⟩
  | true =>
   refine ⟨true,z,?_⟩
   rw [if_pos rfl]
   refine ⟨E,(hr.same ((s1.trans s2).trans s3)),(Fin.bind p).mono fun dz fz w' H4 s4 p4=>?_⟩
   obtain ⟨d',e',p'⟩:=Fin.of fz
   exact hg H4 _ dy dz d' w w' Q (hr.same (((s1.trans s2).trans s3).trans s4)).sane e' (rt_grow (rt_grow p2 s3) s4) p4 fun u' H5 s5 z'=>p' u' H5 ((((s1.trans s2).trans s3).trans s4).trans s5) z'
 | _=>exact p.elim
theorem sf_ch {op op':CmpOp} {r r':R2} {f g:D->D->Option D} (h1:ChOk X op r f) (h2:ChOk X op' r' g) (ha:SE X G a ma) (hb:SE X G b mb) (hc:SE X G c mc) (hm:lastMarks [op,op'] [b,c]=false:=by with_unfolding_all rfl) :
  SF X G (.Compare a [op,op'] [b,c] pos) (eCh f g ma mb mc):=(pe_chain h1.o h2.o ha hb hc hm).imp fun σ H Q h=>ch_imp h1.d h2.d σ H Q h
end

section
variable {X:Cx} {G:Fc} {e:Expr} {m:EV}
noncomputable def flat:D->R D
 | .non=>.ok .non
 | .bl b=>.ok (.bl b)
 | .int i=>.ok (.int i)
 | .str s=>.ok (.str s)
 | _=>.no
noncomputable def eLoose (i:Nat) (m:EV):EV:=fun E=>m (frz i E) >>= flat
theorem sf_loose (i:Nat) (h:SF X G e m):SF X G e (eLoose i m):=by
 rintro pins s σ H Q I ⟨E,hr,f⟩
 have fl:∀ {d:D} {P:D->Prop} {xc:Nat->Prop},Fin (flat d) P xc->P d:=fun {d P xc} p=>by
  cases d<;>first | exact p | exact p.elim
 have fr:∀ {d:D} {v:V} {H H':Hp} {O O':Addr->Prop} {P:D->Prop} {xc:Nat->Prop},Fin (flat d) P xc->Rp X.K H O d v->Rp X.K H' O' d v:=fun {d v H H' O O' P xc} p z=>by
  cases d with
  | non=>unfold Rp at z ⊢; exact z
  | bl b=>unfold Rp at z ⊢; exact z
  | int b=>unfold Rp at z ⊢; exact z
  | str b=>unfold Rp at z ⊢; exact z
  | _=>exact p.elim
 rcases hr.frz (i:=i) with r | ⟨a,ws,e,_,r⟩
 ·exact h pins s σ H Q I ⟨frz i E,r,(Fin.bind f).mono fun d p v H' s z=>fl p v H' s (fr p z)⟩
 ·obtain ⟨o,I',nf⟩:=tagged I e
  refine pe_untag h pins s σ _ Q I' ⟨frz i E,r o,(Fin.bind f).mono fun d p v H' s z=>?_⟩
  refine ⟨_,.inr ⟨a,o,ws,nf,s _ _ upd_same,rfl⟩,fl p v _ (fun b u hb=>?_) (fr p z)⟩
  by_cases hba:b=a
  ·subst hba; rw [e] at hb; cases hb; exact upd_same
  ·rw [upd_ne hba]; exact s _ _ (by rw [upd_ne hba]; exact hb)
end

section
variable {X:Cx} {G:Fc} {r:List V->Hp->VK->Prop} {f:D->D->Option D} {x:Str} {p pos:Pos} {a b:Expr} {ma mb:EV}
noncomputable def fMax:D->D->Option D
 | .int i,.int j=>some (.int (if j > i then j else i))
 | _,_=>none
noncomputable def fMin:D->D->Option D
 | .int i,.int j=>some (.int (if j < i then j else i))
 | _,_=>none
end
section
variable {X:Cx} {G:Fc} {p pos:Pos} {e:Expr} {m:EV}
theorem sf_len (hg:Gl X "len") (hm:X.mg "len"=none) (he:SE X G e m) (hs:starEach [e] X.env=(false,eval e X.env) :: starEach [] X.env:=by rfl) (hpl:(backTo pos (starEach [] X.env)).any (·.1)=false:=by rfl):SF X G (.Call (.Name "len" p) [e] [] pos) (e1 fLen m) :=
 sf_callB call_len cd_len hg hm PySem.boot_len he (hs:=hs) (hpl:=hpl)
theorem sn_list (hg:Gl X "list") (hm:X.mg "list"=none) (he:SE X G e m) (hs:starEach [e] X.env=(false,eval e X.env) :: starEach [] X.env:=by rfl) (hpl:(backTo pos (starEach [] X.env)).any (·.1)=false:=by rfl):SN X G (.Call (.Name "list" p) [e] [] pos) (e1 fList m) :=
 sn_callT call_list cn_list hg hm (by decide +kernel) he (hs:=hs) (hpl:=hpl)
theorem sf_all (gd:Gd X) (hg:Gl X "all") (hm:X.mg "all"=none) (he:SE X G e m) (hs:starEach [e] X.env=(false,eval e X.env) :: starEach [] X.env:=by rfl) (hpl:(backTo pos (starEach [] X.env)).any (·.1)=false:=by rfl):SF X G (.Call (.Name "all" p) [e] [] pos) (e1 fAll m) :=
 sf_callB (call_allL gd.calm) cd_all hg hm (by decide +kernel) he (hs:=hs) (hpl:=hpl)
theorem sf_any (gd:Gd X) (hg:Gl X "any") (hm:X.mg "any"=none) (he:SE X G e m) (hs:starEach [e] X.env=(false,eval e X.env) :: starEach [] X.env:=by rfl) (hpl:(backTo pos (starEach [] X.env)).any (·.1)=false:=by rfl):SF X G (.Call (.Name "any" p) [e] [] pos) (e1 fAny m) :=
 sf_callB (call_anyL gd.calm) cd_any hg hm (by decide +kernel) he (hs:=hs) (hpl:=hpl)
end

inductive Ty where
 | bool | int | list | tuple | str
noncomputable def Ty.nm:Ty->String
 | .bool=>"bool" | .int=>"int" | .list=>"list" | .tuple=>"tuple" | .str=>"str"
noncomputable def fIsi:Ty->D->Option D
 | .bool,.bl _=>some (.bl true)
 | .int,.bl _=>some (.bl true)
 | .int,.int _=>some (.bl true)
 | .list,.lst _=>some (.bl true)
 | .tuple,.tup _=>some (.bl true)
 | .str,.str _=>some (.bl true)
 | _,.non=>some (.bl false)
 | _,.bl _=>some (.bl false)
 | _,.int _=>some (.bl false)
 | _,.str _=>some (.bl false)
 | _,.tup _=>some (.bl false)
 | _,.lst _=>some (.bl false)
 | _,_=>none
end M

set_option Elab.async false
set_option linter.all false
set_option maxRecDepth 100000
namespace M
open PySem PySem.Spec PyProof.Rows L2
section
variable {X:Cx} {G:Fc} {p p2 pos:Pos} {e:Expr} {m:EV}
theorem rt_ty {K:PySem.W.Frag} {H:Hp} {O:Addr->Prop} {t:Ty} {d d':D} {v:V} (e:fIsi t d=some d') (r:Rt K H O d v):∃ tv b,d'=.bl b/\TyOf K H v tv/\PySem.W.kitOne K tv (.type t.nm)=some b:=by
 cases d with
 | non=>rw [r.non]; cases t<;>(cases e; exact ⟨_,_,rfl,.non,rfl⟩)
 | bl b=>rw [r.bl]; cases t<;>(cases e; exact ⟨_,_,rfl,.bl _,rfl⟩)
 | int b=>rw [r.int]; cases t<;>(cases e; exact ⟨_,_,rfl,.int _,rfl⟩)
 | str b=>rw [r.str]; cases t<;>(cases e; exact ⟨_,_,rfl,.str _,rfl⟩)
 | tup ds=>obtain ⟨a,vs,rfl,h1,_⟩:=r.tup; cases t<;>(cases e; exact ⟨_,_,rfl,.tup h1,rfl⟩)
 | lst ds=>obtain ⟨a,vs,rfl,h1,_⟩:=r.lst; cases t<;>(cases e; exact ⟨_,_,rfl,.lst h1,rfl⟩)
 | dic ds=>cases t<;>cases e
 | scr ds=>cases t<;>cases e
noncomputable def rIsi (K:PySem.W.Frag):List V->Hp->VK->Prop:=fun xs H Q=>∃ x T tv b,xs=[x,.ty T]/\TyOf K H x tv/\PySem.W.kitOne K tv (.type T)=some b/\Q (.bl b) H
theorem call_isi:CallR X (.builtin "isinstance") (rIsi X.K):=by
 intro pins s σ H xs us Q I r h
 obtain ⟨x,T,tv,b,rfl,ty,e,q⟩:=h
 obtain ⟨u,w',rfl,r1,r2⟩:=vals2 r
 cases r2
 exact isinst_ok I r1 ty e fun tk=>⟨.bl b,H,I.tok _,rfl,q⟩
theorem sf_isi (t:Ty) {x:Str} (hg:Gl X "isinstance") (hm:X.mg "isinstance"=none) (hg2:Gl X x) (hm2:X.mg x=none) (he:SE X G e m) (hv2:bootBuiltins x=some (.type t.nm):=by decide +kernel) (hn2:x ≠ "__name__":=by decide) (hdb2:(x == ("__debug__":Str))=false:=by decide)
  (hs:starEach [e,.Name x p2] X.env=(false,eval e X.env) :: starEach [.Name x p2] X.env:=by rfl) (hs2:starEach [.Name x p2] X.env=(false,eval (.Name x p2) X.env) :: starEach [] X.env:=by rfl) (hpl:(backTo pos (starEach [.Name x p2] X.env)).any (·.1)=false:=by rfl) :
  SF X G (.Call (.Name "isinstance" p) [e,.Name x p2] [] pos) (e1 (fIsi t) m) :=
 (pe_callB call_isi hg hm (by decide +kernel) (pa_cons he (pa_cons (pe_bltn (v:=.ty t.nm) hg2 hm2 hv2 rfl hn2 hdb2) pa_nil hs2) hs) (he:=hs) (hpl:=hpl)).imp fun σ H Q z0=>z0.elim fun E z0=>z0.elim fun hr h=>⟨E,hr,(Fin.bind h).mono fun dx fx v H1 s1 p1=>by
  obtain ⟨d,e,q⟩:=Fin.of fx
  obtain ⟨tv,b,rfl,ty,ek⟩:=rt_ty e p1
  exact ⟨v,t.nm,tv,b,rfl,ty,ek,q _ H1 s1 (by unfold Rp; rfl)⟩⟩
end
end M

set_option Elab.async false
set_option linter.all false
set_option maxRecDepth 100000
namespace M
open PySem PySem.Spec PyProof.Rows L2
structure Dfn (K:PySem.W.Frag) (mg:Str->Option Value) (x:Str) (st:Stmt) (f:Addr) (fd:FuncData):Prop where
 fn:Fun K x x st f fd
 mg:mg x=some (.ref f)
structure Cal (P:Program) (w:World) (K:PySem.W.Frag) (mg:Str->Option Value) (base:Heap) (x:Str) (ps:List Str) (k:Nat) (dn:List D->R D):Prop where
 ex:∃ (f:Addr) (fd:FuncData),mg x=some (.ref f)/\PySem.W.keepIn K (.ref f)=true/\Binds K fd ps []/\FnOk P w K mg base CX0 k f fd ps (spD K ps.length dn)
section
variable {P:Program} {w:World} {K:PySem.W.Frag} {mg:Str->Option Value} {base:Heap} {x qual:Str} {st:Stmt} {f:Addr} {fd:FuncData} {N ps:List Str} {k:Nat} {m:EX}
theorem fn_okG (F:Fun K x qual st f fd) (S:FnScope N ps (defScope st))
  (hb:∀ (cdv:Value) (A:Around) (outer:List Env) (s:Shared) (H:Hp) (E:XK),Room k (bx P w K mg base N qual (defScope st) f cdv A outer s H E).A->Gd (bx P w K mg base N qual (defScope st) f cdv A outer s H E)->∀ G:Fc,(∀ c,¬ G.xc c)->SB (bx P w K mg base N qual (defScope st) f cdv A outer s H E) G (defBody st) m) :
  FnOk P w K mg base CX0 (k + 1) f fd ps (spD K ps.length (den N.length m)) :=
 F.ok S (fun vs H Q E h=>h.1) fun cdv A outer s H vs Q E hr ⟨hl,pr,ds,hp,rs,f⟩=>by
  have gd:Gd (bx P w K mg base N qual (defScope st) _ cdv A outer s H E):=⟨rfl,PassesOwn.never,S.nd,by have:=hr.units; exact Nat.lt_of_le_of_lt (Nat.add_le_add_left (by decide) _) this⟩
  refine ⟨_,hb cdv A outer s H E hr gd ⟨H,pr,fun _=>False⟩ (fun _ h=>h),startE N.length ds,rel_start hp rs,?_⟩
  refine (Fin.bind f).mono fun o p=>?_
  cases o with
  | rt d=>exact fun v H' s z=>p v H' s z
  | nx E'=>exact fun σ' H' r'=>p .non H' r'.base (by unfold Rp; rfl)
  | bk E'=>exact p.elim
  | ct E'=>exact p.elim
end
section
variable {X:Cx} {G:Fc} {k j:Nat} {ps:List Str} {dn:List D->R D} {x:Str} {p pos:Pos} {e:Expr} {es:List Expr} {ma:Ev->R (List D)}
theorem sf_cal (C:Cal X.prog X.w X.K X.mg X.base x ps k dn) (hx:∀ c,¬ G.xc c) (hr:Room j X.A) (hk:k<=j) (hg:Gl X x) (ha:SA X G (e :: es) ma) (hdb:(x == ("__debug__":Str))=false:=by decide) (he:starEach (e :: es) X.env=(false,eval e X.env) :: starEach es X.env:=by rfl) (hpl:(backTo pos (starEach es X.env)).any (·.1)=false:=by rfl) :
  SF X G (.Call (.Name x p) (e :: es) [] pos) (eCall ps.length dn ma):=by
 obtain ⟨f,fd,hm,hk',hb,F⟩:=C.ex
 exact sf_call F hx (hr.mono hk) hg hm hk' hb ha hdb he hpl
end
theorem hset_n (i:Nat):∀ d E E',gN i d E=some E'->clr [i] E'=clr [i] E:=fun d E E' h=>by
 unfold gN at h
 cases h
 show (E.set i (.fz d)).set i .un=E.set i .un
 rw [List.set_set]
theorem hset_t (i j:Nat):∀ d E E',gT i j d E=some E'->clr [i,j] E'=clr [i,j] E:=fun d E E' h=>by
 unfold gT at h
 split at h
 ·cases h
  rename_i a b
  show (((((E.set i (.fz a)).set j (.fz b)).set i .un).set j .un))=((E.set i .un).set j .un)
  by_cases e:i=j
  ·subst e; simp
  ·rw [List.set_comm _ _ (Ne.symm e),List.set_set]
   rw [List.set_comm (l:=E) _ _ e]
   simp [List.set_set]
   rw [List.set_comm _ _ (Ne.symm e)]
 ·cases h
end M

set_option Elab.async false
set_option linter.all false
set_option maxRecDepth 100000
namespace M
open PySem PySem.Spec PyProof.Rows L2
section
variable {X:Cx} {pins:List (Addr × Obj)} {σ:St} {H:Hp} {s:Shared} {a b:Addr} {kvs:List (List Key × V)} {k:List Key} {v:V} {r:Value} {A:Around} {E:Value->Shared->Prop}
end
section
variable {X:Cx} {pos:Pos} {k v:Expr} {tk tv:TE}
end
noncomputable def flatB:D->Bool
 | .non=>true | .bl _=>true | .int _=>true | .str _=>true
 | _=>false
noncomputable def eD1 (mk mv:EV):EV:=fun E=>mk E >>= fun k=>mv E >>= fun v=>match keyOf k with
 | some ks=>if flatB v=true then .ok (.dic [(ks,v)]) else .no
 | none=>.no
section
variable {X:Cx} {G:Fc} {pos:Pos} {k v:Expr} {mk mv:EV}
end
end M

set_option Elab.async false
set_option linter.all false
set_option maxRecDepth 100000
namespace PySem
open Sem (wp)
end PySem

set_option Elab.async false
set_option linter.all false
set_option maxRecDepth 100000
namespace PySem.F
end PySem.F
namespace M
open PySem PySem.Spec PyProof.Rows L2
section
variable {X:Cx} {pins:List (Addr × Obj)} {σ:St}
end
end M

set_option Elab.async false
set_option linter.all false
set_option maxRecDepth 100000
namespace M
open PySem PySem.Spec PyProof.Rows L2
noncomputable def dPair:D->Option (List Int × D)
 | .tup [k,v]=>(keyOf k).map fun ks=>(ks,v)
 | _=>none
noncomputable def dPairs:List D->Option (List (List Int × D))
 | []=>some []
 | d :: r=>(dPair d).bind fun p=>(dPairs r).map fun ps=>p :: ps
noncomputable def dputs (kvs:List (List Int × D)) (more:List (List Int × D)):List (List Int × D):=more.foldl (fun acc kv=>dput acc kv.1 kv.2) kvs
noncomputable def fDict:D->Option D
 | .lst ds=>if ds.length<=1000000 then (dPairs ds).map fun ps=>.dic (dputs [] ps) else none
 | _=>none
section
variable {K:PySem.W.Frag} {H:Hp} {O:Addr->Prop}
end
section
variable {X:Cx} {G:Fc} {p pos:Pos} {e:Expr} {m:EV}
end
end M

set_option Elab.async false
set_option linter.all false
set_option maxRecDepth 100000
namespace M
open PySem PySem.Spec PyProof.Rows L2
theorem loc_of {N:List Str} {sc:Scope} {ts:List Nat} (h:((List.range N.length).all fun i=>ts.contains i || !(sc.names.lookup (N.getD i Str.empty) == some NameKind.local))=true):∀ (i:Nat) x,N[i]?=some x->sc.names.lookup x=some .local->i ∈ ts:=fun i x hi hl=>by
 have hlt:i < N.length:=(List.getElem?_eq_some_iff.mp hi).1
 have:=List.all_eq_true.mp h i (by simpa using hlt)
 rw [List.getD_eq_getElem?_getD,hi] at this
 simp only [Option.getD_some,hl] at this
 have e:(some NameKind.local == some NameKind.local)=true:=rfl
 rw [e] at this
 simpa using this
noncomputable def FreeOk (X:Cx):List (Str × NameKind)->Prop
 | []=>True
 | y :: r=>(y.2=.free->X.env.kindOf y.1=some .cell\/X.env.kindOf y.1=some .free)/\FreeOk X r
theorem FreeOk.all {X:Cx}:∀ {l:List (Str × NameKind)},FreeOk X l->∀ y ∈ l,y.2=.free->X.env.kindOf y.1=some .cell\/X.env.kindOf y.1=some .free
 | [],_,y,hy,_=>by simp at hy
 | z :: r,h,y,hy,hf=>by
  rcases List.mem_cons.mp hy with e | e
  ·subst e; exact h.1 hf
  ·exact FreeOk.all h.2 y e hf
theorem cs_of {X:Cx} {sc:Scope} (h1:sc.kind=.function) (h2:(sc.names.all fun y=>!(y.2 == NameKind.cell))=true) (h3:(sc.names.all fun y=>sc.names.lookup y.1 == some y.2)=true) (h4:FreeOk X sc.names):CScope X sc where
 kind:=h1
 nocell:=fun y hy e=>by
  have:=List.all_eq_true.mp h2 y hy
  rw [e] at this
  exact absurd this (by decide)
 names:=fun y hy=>by
  have:=List.all_eq_true.mp h3 y hy
  cases q:sc.names.lookup y.1 with
  | none=>rw [q] at this; cases z:y.2<;>(rw [z] at this; exact absurd this (by decide))
  | some k =>
   rw [q] at this
   cases z:y.2<;>cases k<;>first | rfl | (rw [z] at this; exact absurd this (by decide))
 free:=h4.all
theorem sf_gint {X:Cx} {G:Fc} {x:Str} {i:Int} {pos:Pos} (h:∃ t,X.mg x=some (.int i t)) (hg:Gl X x) (hd:(x == ("__debug__":Str))=false:=by decide):SF X G (.Name x pos) (kE (.int i)):=by
 obtain ⟨t,h⟩:=h
 exact sf_glob hg h ⟨t,rfl⟩ hd
end M

set_option Elab.async false
set_option linter.all false
set_option maxRecDepth 100000
namespace M
open PySem PySem.Spec PyProof.Rows L2
structure Ent (K:PySem.W.Frag) (x:Str) (st:Stmt) (f:Addr):Prop where
 a:PySem.W.nsIn K mainGlobals x=some (some (.ref f))
 l:∃ fd,Fun K x x st f fd
theorem ent_mk {K:PySem.W.Frag} {x:Str} {st:Stmt} {f:Addr} {oc:Value} {od an:Option Addr} {sl:Array (Option Value)} {kV dc pm cd ct:Value} (a:PySem.W.nsIn K mainGlobals x=some (some (.ref f)))
  (l:K.lookup f=some ⟨oc,od,.func (PySem.W.fnOf x x (defArgs st) (defBody st) (defScope st) .none kV dc pm an cd ct),sl⟩) (c:PySem.W.codeIn K cd x=true) (k:PySem.W.keepIn K (.ref f)=true):Ent K x st f:=⟨a,_,fun_mk l c k⟩
theorem ent_ex {K:PySem.W.Frag} {h:Heap} {x:Str} {st:Stmt} {f:Addr} {oc:Value} {od an:Option Addr} {sl:Array (Option Value)} {kV dc pm cd ct:Value} (_:K.In h) (a:PySem.W.nsIn K mainGlobals x=some (some (.ref f)))
  (l:K.lookup f=some ⟨oc,od,.func (PySem.W.fnOf x x (defArgs st) (defBody st) (defScope st) .none kV dc pm an cd ct),sl⟩) (c:PySem.W.codeIn K cd x=true) (k:PySem.W.keepIn K (.ref f)=true):∃ f,Ent K x st f:=⟨f,ent_mk a l c k⟩
theorem int_ex {K:PySem.W.Frag} {h:Heap} {x:Str} {i:Int} {t:Tok} (_:K.In h) (a:PySem.W.nsIn K mainGlobals x=some (some (.int i t))):∃ t,PySem.W.nsIn K mainGlobals x=some (some (.int i t)):=⟨t,a⟩
theorem Ent.dfn {K:PySem.W.Frag} {h:Heap} {mg:Str->Option Value} {x:Str} {st:Stmt} {f:Addr} (e:Ent K x st f) (X:K.In h) (G:h.Ns mainGlobals mg):∃ fd,Dfn K mg x st f fd:=by
 obtain ⟨fd,F⟩:=e.l
 exact ⟨fd,F,PySem.W.mg_of X G e.a⟩
theorem sp_law {dn:List D->R D} {K:PySem.W.Frag} {H:Hp} {a:Addr} {ns:List Int} (hl:ns.length<=63) (hS:SqL K H a (ns.map V.int)) (h:∀ ns:List Int,ns.length<=63->dn [.scr ns]=.ok (.bl true)):spD K 1 dn [.ref a] H (fun v _=>v=.bl true) fun _ _ _=>False:=by
 refine ⟨rfl,fun _=>False,[.scr ns],fun _ h=>h.elim,Rps.cons ?_ Rps.nil,?_⟩
 ·unfold Rp
  refine ⟨a,rfl,?_⟩
  rcases hS with h | h
  ·exact .inl ⟨id,h⟩
  ·exact .inr (.inr h)
 ·rw [h ns hl]
  exact fun v H' _ r=>by unfold Rp at r; exact r
theorem law_end {P:Program} {w:World} {K:PySem.W.Frag} {mg:Str->Option Value} {fa:Addr} {k:Nat} {dn:List D->R D} {st:Stmt} {f:Addr} {fd:FuncData} (hfa:mg "law"=some (.ref fa)) (Dn:Dfn K mg "law" st f fd)
  (hb:∀ (s:Shared) (v:Value),BindsTo s fd ⟨[v],[]⟩ [("script",v)])
  (h:∀ base:Heap,FnOk P w K mg base CX0 k f fd ["script"] (spD K 1 dn)) :
  ∃ fd:FuncData,(∀ (s:Shared) (v:Value),BindsTo s fd ⟨[v],[]⟩ [("script",v)])/\∀ base:Heap,K.In base->base.Ns mainGlobals mg->FnOk P w K mg base CX0 k fa fd ["script"] (spD K 1 dn):=by
 have e:=hfa.symm.trans Dn.mg
 cases e
 exact ⟨fd,hb,fun base _ _=>h base⟩
theorem Fun.one {K:PySem.W.Frag} {x qual:Str} {st:Stmt} {f:Addr} {fd:FuncData} {p:Str} (F:Fun K x qual st f fd)
  (h:∀ (kV doc pm:Value) (an:Option Addr) (cdv ct u:Value),bindArgs (PySem.W.fnOf x qual (defArgs st) (defBody st) (defScope st) .none kV doc pm an cdv ct) ⟨[u],[]⟩=pure [(p,u)]) (s:Shared) (v:Value):BindsTo s fd ⟨[v],[]⟩ [(p,v)]:=by
 obtain ⟨oc,od,kV,doc,pm,an,cdv,ct,osl,rfl,lk,hcd⟩:=F.ex
 exact .of_eq (h kV doc pm an cdv ct v)
end M

set_option Elab.async false
set_option linter.all false
set_option maxRecDepth 100000
namespace M
open PySem PySem.W PySem.Spec PyProof.Rows L2
noncomputable def dTup:D->Option (List Int)
 | .tup ds=>(dInts ds).bind fun ns=>if ns.isEmpty then none else some ns
 | _=>none
noncomputable def dTups:List D->Option (List (List Int))
 | []=>some []
 | d :: r=>(dTup d).bind fun p=>(dTups r).map fun ps=>p :: ps
noncomputable def kT (k:List Int):D:=.tup (k.map D.int)
noncomputable def fSort:D->Option D
 | .lst ds=>(dTups ds).bind fun ks=>if ks.length < 67 then some (.lst ((sortK ks).map kT)) else none
 | _=>none
section
variable {K:PySem.W.Frag} {H:Hp} {O:Addr->Prop}
theorem tup_at {d:D} {v:V} {k:List Int} (e:dTup d=some k) (r:Rp K H O d v):TupAt H v k/\k ≠ []/\∀ a,v=.ref a->¬ O a:=by
 cases d with
 | tup ds =>
  simp only [dTup,Option.bind_eq_some_iff] at e
  obtain ⟨ns,e1,e2⟩:=e
  have hd:=ints_some e1
  subst hd
  unfold Rp at r
  obtain ⟨a,vs,rfl,no,ha,rs⟩:=r
  have hv:=rs.ints
  subst hv
  split at e2
  ·cases e2
  ·rename_i he
   cases e2
   exact ⟨⟨a,rfl,ha⟩,by intro z; subst z; simp at he,fun b hb=>by cases hb; exact no⟩
 | _=>cases e
theorem tups_at:∀ {ds:List D} {vs:List V} {ks:List (List Int)},dTups ds=some ks->Rps K H O ds vs->Paired (TupAt H) vs ks/\(∀ k ∈ ks,k ≠ [])/\∀ v ∈ vs,∀ a,v=.ref a->¬ O a
 | [],vs,ks,e,r=>by
  unfold Rps at r; subst r
  cases e
  exact ⟨.nil,by simp,by simp⟩
 | d :: ds,vs,ks,e,r=>by
  unfold Rps at r
  obtain ⟨v,vr,rfl,p,rs⟩:=r
  unfold dTups at e
  rw [Option.bind_eq_some_iff] at e
  obtain ⟨q,e1,e2⟩:=e
  rw [Option.map_eq_some_iff] at e2
  obtain ⟨qs,e3,rfl⟩:=e2
  obtain ⟨h1,h2,h3⟩:=tup_at e1 p
  obtain ⟨h4,h5,h6⟩:=tups_at e3 rs
  refine ⟨.cons h1 h4,fun k hk=>?_,fun u hu=>?_⟩
  ·rcases List.mem_cons.mp hk with e | e
   ·rw [e]; exact h2
   ·exact h5 k e
  ·rcases List.mem_cons.mp hu with e | e
   ·rw [e]; exact h3
   ·exact h6 u e
theorem tups_back:∀ {vs:List V} {ks:List (List Int)},Paired (TupAt H) vs ks->(∀ v ∈ vs,∀ a,v=.ref a->¬ O a)->Rps K H O (ks.map kT) vs
 | _,_,.nil,_=>Rps.nil
 | _,_,.cons (a:=v) (b:=k) h t,hn=>by
  rw [List.map_cons]
  refine Rps.cons ?_ (tups_back t fun u hu=>hn u (List.mem_cons_of_mem _ hu))
  obtain ⟨a,rfl,ha⟩:=h
  unfold kT Rp
  exact ⟨a,_,rfl,hn _ (by simp) a rfl,ha,rps_of_ints _⟩
theorem cn_sort:CallN K (rSorted K) fSort:=fun H O dx d v Q fr e rx q=>by
 cases dx with
 | lst ds =>
  simp only [fSort,Option.bind_eq_some_iff] at e
  obtain ⟨ks,e1,e2⟩:=e
  split at e2
  ·rename_i hl
   cases e2
   obtain ⟨a,vs,rfl,h1,r1⟩:=rx.lst
   obtain ⟨p1,p2,p3⟩:=tups_at e1 r1
   refine ⟨a,vs,ks,rfl,SqL.of h1,p1,p2,hl,fun l outs hl ho po=>q l _ (same_upd hl) hl ⟨_,upd_same,?_⟩⟩
   exact ((tups_back (K:=K) po fun u hu=>p3 u (ho u hu)).fresh hl).mono (same_upd hl) fun _ z=>z
  ·cases e2
 | _=>cases e
end
section
variable {X:Cx} {G:Fc} {p pos:Pos} {e:Expr} {m:EV}
theorem sn_sort (gd:Gd X) (hg:Gl X "sorted") (hm:X.mg "sorted"=none) (he:SE X G e m) (hs:starEach [e] X.env=(false,eval e X.env) :: starEach [] X.env:=by rfl) (hpl:(backTo pos (starEach [] X.env)).any (·.1)=false:=by rfl):SN X G (.Call (.Name "sorted" p) [e] [] pos) (e1 fSort m) :=
 sn_callB call_sorted cn_sort hg hm (by decide +kernel) he (hs:=hs) (hpl:=hpl)
end
noncomputable def rSortedD:List V->Hp->VK->Prop:=fun xs H Q=>∃ (p:Addr) (kvs:List (List Key × V)) (ks:List (List Int)),xs=[.ref p]/\Rd H p (.dT kvs)/\kvs.map (·.1)=ks.map (fun k=>k.map Sum.inl)/\(∀ k ∈ ks,k ≠ [])/\ks.length < 67 ∧
 ∀ l outs,H l=none->Paired (TupAt H) outs (sortK ks)->Q (.ref l) (upd H l (.lst outs))
theorem mk_ys {H:Hp}:∀ (vs:List Value) (ks:List (List Int)),vs.length=ks.length->(∀ (j:Nat) (v:Value),vs[j]?=some v->∃ b k,v=.ref b/\ks[j]?=some k/\H b=some (.tup (k.map V.int)))->∃ ys,Vals ys vs/\Paired (TupAt H) ys ks
 | [],[],_,_=>⟨[],.nil,.nil⟩
 | [],_ :: _,h,_=>by simp at h
 | _ :: _,[],h,_=>by simp at h
 | v :: vs,k :: ks,h,hv=>by
  obtain ⟨b,k',e1,e2,e3⟩:=hv 0 v rfl
  have e2:k=k':=by simpa using e2
  subst e2
  obtain ⟨ys,h1,h2⟩:=mk_ys vs ks (by simpa using h) fun j u hu=>by
   have:=hv (j + 1) u (by simpa using hu)
   simpa using this
  exact ⟨.ref b :: ys,.cons e1 h1,.cons ⟨b,rfl,e3⟩ h2⟩
section
variable {X:Cx}
theorem call_sortedD (gd:Gd X):CallR X (.builtin "sorted") rSortedD:=by
 intro pins s σ H xs us Q I r h
 obtain ⟨p,kvs,ks,rfl,hp,hk,ne,h64,q⟩:=h
 obtain ⟨u,rfl,ru⟩:=vals1 r
 cases ru
 obtain ⟨lo,lz,es,ep,raw,esz,ent⟩:=raw_of I hp
 have lk:kvs.length=ks.length:=by
  have:=congrArg List.length hk
  simpa using this
 obtain ⟨m,F⟩:=I.fr
 have N:News X.base X.env.locals s.heap (allNews X.base s.heap X.env.locals):=news_all
 have hh:X.A.handled=none:=I.ok.hd gd.calm
 refine kdu_sorted (raw_src (es:=es) (ep:=ep) lo) hh F N raw (by rw [esz]; exact lz) fun D h' tk vs F' N' above lvs hvs=>?_
 -- the keys are tracked tuples
 have vk:∀ (j:Nat) (v:Value),vs[j]?=some v->∃ b k,v=.ref b/\ks[j]?=some k/\H b=some (.tup (k.map V.int)):=fun j v ev=>by
  obtain ⟨en,e1,rfl⟩:=hvs j v ev
  obtain ⟨k,w,b,e2,e3,e4⟩:=ent j en e1
  have e5:(kvs.map (·.1))[j]?=some k:=by rw [List.getElem?_map,e2]; rfl
  rw [hk,List.getElem?_map] at e5
  cases e6:ks[j]? with
  | none=>rw [e6] at e5; cases e5
  | some k' =>
   rw [e6] at e5
   have e7:k'.map Sum.inl=k:=by simpa using e5
   refine ⟨b,k',e3,rfl,?_⟩
   rw [e4,<-e7]
   simp [kV,Function.comp_def]
 obtain ⟨ys,rv,pk⟩:=mk_ys vs ks (by rw [lvs,esz,lk]) vk
 have nD:s.heap.get? D=none:=by
  cases e:s.heap.get? D with
  | none=>rfl
  | some o =>
   have hn:=N' (D,listOf vs.toArray 0) List.mem_cons_self
   exact absurd (above (D,o) (mem_allNews hn.2.1 hn.2.2 e)) (Nat.lt_irrefl _)
 have nH:H D=none:=by
  cases z:H D with
  | none=>rfl
  | some u=>obtain ⟨ob,e⟩:=objOk_there (I.hok D u z); rw [nD] at e; cases e
 have hD:=(N' (D,listOf vs.toArray 0) List.mem_cons_self)
 have behind:∀ (out:Array Value) (outs:List V),Vals outs out.toList->outs.length<=66->Paired (TupAt H) outs (sortK ks)->EP X pins σ Q (.ref D) { s with heap:=sortedHeap h' D vs out,toks:=tk }:=fun out outs ro lo hs=>by
  obtain ⟨e,hat⟩:=sortedHeap_at (out:=out) hD.1
  have old:∀ b o,b ≠ D->h'.get? b=some o->(sortedHeap h' D vs out).get? b=some o:=fun b o hb q=>by
   rw [sortedHeap_old hb (Heap.lt_size q)]; exact q
  have keepL:∀ b o,b ≠ X.env.locals->s.heap.get? b=some o->(sortedHeap h' D vs out).get? b=some o:=fun b o hb e=>by
   have neD:b ≠ D:=fun z=>by rw [z,nD] at e; cases e
   refine old b o neD ?_
   cases g:X.base.get? b with
   | some o'=>have:=I.bk b o' g; rw [e] at this; cases this; exact F'.keep b _ g
   | none=>exact (N' (b,o) (List.mem_cons_of_mem _ (mem_allNews hb g e))).1
  have F2:Fr X.base X.env.locals (sortedHeap h' D vs out) m:=by
   obtain ⟨oL,a1,a2,hoL,a3⟩:=F'.ns
   refine ⟨⟨oL,a1,a2,old _ _ (Ne.symm hD.2.1) hoL,a3⟩,fun b x e=>old b x (fun z=>?_) (F'.keep b x e),F'.above⟩
   rw [z,hD.2.2] at e; cases e
  exact ⟨.ref D,_,ledgerLaid (s':={ s with heap:=sortedHeap h' D vs out,toks:=tk }) (o:=.lst outs) I F F2 keepL nD ⟨by rw [sizeLine_eq]; omega,out.toList,e,ro,by rw [Array.toArray_toList]; exact hat⟩ rfl I.bare,rfl,q D outs nH hs⟩
 by_cases h2:vs.length < 2
 ·have hs:Paired (TupAt H) ys (sortK ks):=by
   have lks:ks.length < 2:=by rw [<-lk,<-esz,<-lvs]; exact h2
   have:sortK ks=ks:=by
    match ks,lks with
    | [],_=>rfl
    | [_],_=>rfl
   rw [this]; exact pk
  exact wpAny_call_entry slot_list_sort ⟨_,hD.1,rfl⟩ entry_list_sort (list_sort_short hD.1 h2 ⟨_,rfl,behind vs.toArray ys rv (by rw [rv.length]; omega) hs⟩) (args_list_sort _)
 have h67:vs.length < 67:=by
  have e:vs.length=ks.length:=by rw [lvs,esz,lk]
  omega
 ·obtain ⟨κ,lt,S,c1,c2,c3,c4⟩:=coreN I pk rv ne (by omega)
  have keepH:∀ b o u,H b=some u->s.heap.get? b=some o->h'.get? b=some o:=fun b o u hu e=>by
   have hb:b ≠ X.env.locals:=fun z=>by rw [z,I.free] at hu; cases hu
   cases g:X.base.get? b with
   | some o'=>have:=I.bk b o' g; rw [e] at this; cases this; exact F'.keep b _ g
   | none=>exact (N' (b,o) (List.mem_cons_of_mem _ (mem_allNews hb g e))).1
  refine wpAny_call_entry slot_list_sort ⟨_,hD.1,rfl⟩ entry_list_sort (list_sortN (s:={ s with heap:=h',toks:=tk }) hD.1 (by omega) h67 c1 c2 (fun h1 keep=>c3 _ _ fun b o u hu e=>keep b o (fun z=>?_) (keepH b o u hu e)) fun arr a1 a2=>⟨_,rfl,?_⟩) (args_list_sort _)
  ·rw [z,nD] at e; cases e
  ·obtain ⟨outs,o1,o2,o3⟩:=c4 arr a1 a2
   refine behind _ outs o3 ?_ o2
   rw [o3.length,Array.length_toList,Array.size_map,<-Array.length_toList,a1.length_eq]
   simp; omega
end
noncomputable def fSortD:D->Option D
 | .dic kvs=>if (kvs.all fun kv=>!kv.1.isEmpty)=true/\kvs.length < 67 then some (.lst ((sortK (kvs.map (·.1))).map kT)) else none
 | _=>none
section
variable {K:PySem.W.Frag} {H:Hp} {O:Addr->Prop}
theorem Rpk.keys:∀ {kvs:List (List Int × D)} {ws:List (List Key × V)},Rpk K H O kvs ws->ws.map (·.1)=(kvs.map (·.1)).map fun k=>k.map Sum.inl
 | [],_,h=>by unfold Rpk at h; subst h; rfl
 | (k,d) :: r,_,h=>by
  unfold Rpk at h
  obtain ⟨v,r',rfl,_,h2⟩:=h
  simp [Rpk.keys h2]
theorem cn_sortD:CallN K rSortedD fSortD:=fun H O dx d v Q fr e rx q=>by
 cases dx with
 | dic kvs =>
  simp only [fSortD] at e
  split at e
  ·rename_i hl
   cases e
   obtain ⟨a,ws,rfl,h1,r1⟩:=rx.dic
   refine ⟨a,ws,kvs.map (·.1),rfl,h1,r1.keys,fun k hk=>?_,by simpa using hl.2,fun l outs hl po=>q l _ (same_upd hl) hl ⟨_,upd_same,?_⟩⟩
   ·obtain ⟨kv,hkv,rfl⟩:=List.mem_map.mp hk
    have:=List.all_eq_true.mp hl.1 kv hkv
    intro z
    rw [z] at this
    simp at this
   ·refine ((tups_back (K:=K) (O:=O) po fun u hu a ha=>?_).fresh hl).mono (same_upd hl) fun _ z=>z
    subst ha
    obtain ⟨i,hi,e⟩:=List.mem_iff_getElem.mp hu
    obtain ⟨k,_,b,e2,e3⟩:=paired_get po i (V.ref a) (by rw [List.getElem?_eq_getElem hi,e])
    cases e2
    exact fr.tup e3
  ·cases e
 | _=>cases e
end
section
variable {X:Cx} {G:Fc} {p pos:Pos} {e:Expr} {m:EV}
theorem sn_sortd (gd:Gd X) (hg:Gl X "sorted") (hm:X.mg "sorted"=none) (he:SE X G e m) (hs:starEach [e] X.env=(false,eval e X.env) :: starEach [] X.env:=by rfl) (hpl:(backTo pos (starEach [] X.env)).any (·.1)=false:=by rfl):SN X G (.Call (.Name "sorted" p) [e] [] pos) (e1 fSortD m) :=
 sn_callB (call_sortedD gd) cn_sortD hg hm (by decide +kernel) he (hs:=hs) (hpl:=hpl)
end
end M

set_option Elab.async false
set_option linter.all false
set_option maxRecDepth 100000
namespace M
open PySem PySem.Spec PyProof.Rows L2
noncomputable def OutN (K:PySem.W.Frag) (G:Fc) (Dn:Ends):Out->Prop
 | .nx E=>∀ σ H,Rel K G E σ H->Dn.nx σ H
 | .bk E=>∀ σ H,Rel K G E σ H->Dn.bk σ H
 | .ct E=>∀ σ H,Rel K G E σ H->Dn.ct σ H
 | .rt d=>∀ a H,Same G.h0 H->G.h0 a=none->Own K H (fun b=>G.pr b\/b=a) d a->Dn.rt (.ref a) H
noncomputable def SBN (X:Cx) (G:Fc) (st:List Stmt) (m:EX):Prop :=
 PSs X st fun Dn σ H=>∃ E,Rel X.K G E σ H/\Fin (m E) (OutN X.K G Dn) G.xc
noncomputable def SSN (X:Cx) (G:Fc) (st:Stmt) (m:EX):Prop :=
 PS X st fun Dn σ H=>∃ E,Rel X.K G E σ H/\Fin (m E) (OutN X.K G Dn) G.xc
noncomputable def xThen (m n:EX):EX:=fun E=>m E >>= fun o=>match o with
 | .nx E'=>n E'
 | _=>.no
noncomputable def xRetO (i:Nat):EX:=fun E=>match E[i]? with
 | some (.ow d)=>.ok (.rt d)
 | _=>.no
section
variable {X:Cx} {G:Fc} {st:Stmt} {rest:List Stmt} {m n:EX} {e:Expr} {me:EV} {pos:Pos}
theorem ssn_reto (i:Nat) {x:Str} {p:Pos} (hN:X.N[i]?=some x:=by rfl) (hv:Vis X.env.scope x:=by first | exact Or.inl rfl | exact Or.inr (Or.inl rfl) | exact Or.inr (Or.inr rfl)) (hd:(x == ("__debug__":Str))=false:=by decide)
  (hcd:(x == ("__classdict__":Str))=false:=by decide):SSN X G (.Return (some (.Name x p)) pos) (xRetO i):=(ps_ret (pe_var hN hv hd hcd)).imp fun D σ H z0=>z0.elim fun E z0=>z0.elim fun hr f=>by
 unfold xRetO at f
 split at f
 ·rename_i d hi
  obtain ⟨a,e1,e2,e3⟩:=hr.ow i d hi
  refine ⟨.ref a,e1,f a H hr.base e3 (e2.mono (Same.refl _) fun b hb=>?_)⟩
  rcases hb with hb | hb
  ·exact .inl hb
  ·subst hb; exact .inr ⟨i,d,hi,e1⟩
 ·exact f.elim
theorem sbn_one (h:SSN X G st m):SBN X G [st] m:=pss_one h
theorem sbn_then (h1:SS X G st m) (h2:SBN X G rest n):SBN X G (st :: rest) (xThen m n):=(pss_cons h1 h2).imp fun D σ H z0=>z0.elim fun E z0=>z0.elim fun hr f=>⟨E,hr,(Fin.bind f).mono fun o p=>by
 cases o with
 | nx E'=>exact fun σ' H' r'=>⟨E',r',p⟩
 | bk E'=>exact p.elim
 | ct E'=>exact p.elim
 | rt d=>exact p.elim⟩
noncomputable def spN (K:PySem.W.Frag) (n:Nat) (den:List D->R D):Sp:=fun vs H Q _=>vs.length=n/\∃ (pr:Addr->Prop) (ds:List D),(∀ a,pr a->∃ o,H a=some o/\NoTup o)/\Rps K H pr ds vs/\Fin (den ds) (fun d=>∀ a H',Same H H'->H a=none->Own K H' (fun b=>pr b\/b=a) d a->Q (.ref a) H') fun _=>False
noncomputable def endedN (r:R Out):R D:=r >>= fun o=>match o with
 | .rt d=>.ok d
 | _=>.no
noncomputable def denN (n:Nat) (m:EX):List D->R D:=fun ds=>endedN (m (startE n ds))
structure CalN (P:Program) (w:World) (K:PySem.W.Frag) (mg:Str->Option Value) (base:Heap) (x:Str) (ps:List Str) (k:Nat) (dn:List D->R D):Prop where
 ex:∃ (f:Addr) (fd:FuncData),mg x=some (.ref f)/\PySem.W.keepIn K (.ref f)=true/\Binds K fd ps []/\FnOk P w K mg base CX0 k f fd ps (spN K ps.length dn)
end
section
variable {P:Program} {w:World} {K:PySem.W.Frag} {mg:Str->Option Value} {base:Heap} {x qual:Str} {st:Stmt} {f:Addr} {fd:FuncData} {N ps:List Str} {k:Nat} {m:EX}
theorem fn_okN (F:Fun K x qual st f fd) (S:FnScope N ps (defScope st))
  (hb:∀ (cdv:Value) (A:Around) (outer:List Env) (s:Shared) (H:Hp) (E:XK),Room k (bx P w K mg base N qual (defScope st) f cdv A outer s H E).A->Gd (bx P w K mg base N qual (defScope st) f cdv A outer s H E)->∀ G:Fc,(∀ c,¬ G.xc c)->SBN (bx P w K mg base N qual (defScope st) f cdv A outer s H E) G (defBody st) m) :
  FnOk P w K mg base CX0 (k + 1) f fd ps (spN K ps.length (denN N.length m)) :=
 F.ok S (fun vs H Q E h=>h.1) fun cdv A outer s H vs Q E hr ⟨hl,pr,ds,hp,rs,f⟩=>by
  have gd:Gd (bx P w K mg base N qual (defScope st) _ cdv A outer s H E):=⟨rfl,PassesOwn.never,S.nd,by have:=hr.units; exact Nat.lt_of_le_of_lt (Nat.add_le_add_left (by decide) _) this⟩
  refine ⟨_,hb cdv A outer s H E hr gd ⟨H,pr,fun _=>False⟩ (fun _ h=>h),startE N.length ds,rel_start hp rs,?_⟩
  refine (Fin.bind f).mono fun o p=>?_
  cases o with
  | rt d=>exact fun a H' s n z=>p a H' s n z
  | nx E'=>exact p.elim
  | bk E'=>exact p.elim
  | ct E'=>exact p.elim
end
section
variable {X:Cx} {G:Fc} {k j:Nat} {ps:List Str} {dn:List D->R D} {x:Str} {p pos:Pos} {e:Expr} {es:List Expr} {ma:Ev->R (List D)}
theorem sn_cal (C:CalN X.prog X.w X.K X.mg X.base x ps k dn) (hx:∀ c,¬ G.xc c) (hr:Room j X.A) (hk:k<=j) (hg:Gl X x) (ha:SA X G (e :: es) ma) (hdb:(x == ("__debug__":Str))=false:=by decide) (he:starEach (e :: es) X.env=(false,eval e X.env) :: starEach es X.env:=by rfl) (hpl:(backTo pos (starEach es X.env)).any (·.1)=false:=by rfl) :
  SN X G (.Call (.Name x p) (e :: es) [] pos) (eCall ps.length dn ma):=by
 obtain ⟨f,fd,hm,hk',hb,F⟩:=C.ex
 exact (pe_call F (hr.mono hk) hg hm hk' hb .nil pass0 ha hdb he hpl).imp fun σ H Q z0=>z0.elim fun E z0=>z0.elim fun hr f=>⟨E,hr,(Fin.bind f).mono fun ds p vs H1 s1 rs=>by
  split at p
  ·rename_i hl
   refine ⟨by rw [List.append_nil,rs.length]; exact hl,Ow G.pr E σ,ds,fun a z=>(hr.same s1).owned z,by rw [List.append_nil]; exact rs,?_⟩
   revert p
   cases dn ds with
   | ok d =>
    refine fun p a H' s n z=>p a H' (s1.trans s) ?_ z
    cases w:H a with
    | none=>rfl
    | some o=>rw [s1 _ _ w] at n; cases n
   | er c=>exact fun p=>hx c p
   | no=>exact fun p=>p
  ·exact p.elim⟩
end
end M

set_option Elab.async false
set_option linter.all false
set_option maxRecDepth 100000
namespace M
open PySem PySem.W PySem.Spec PyProof.Rows L2
theorem raw_frz {X:Cx} {pins:List (Addr × Obj)} {σ:St} {H:Hp} {s:Shared} {a:Addr} {o:Obj} {kvs:List (List Key × V)} (I:Inv X pins σ H s) (h:H a=some (.frz o (.dT kvs))) :
  s.heap.get? a=some o/\o.ExactDict/\∃ es ep,o.data=.dict es ep/\es.size=kvs.length/\∀ (i:Nat) (e:DictEntry),es[i]?=some e->∃ k v b,kvs[i]?=some (k,v)/\e.key=.ref b/\RelV v e.val/\H b=some (.tup (k.map kV)):=by
 obtain ⟨g,z,y,xs,r,o',es,ep,h1,h2,h3,h4,h5⟩:=(show ObjOk X.prog X.w H s.heap a (.frz o (.dT kvs)) from I.hok a _ h)
 rw [g] at h1; cases h1
 have l:es.size=kvs.length:=by
  have:=congrArg List.length h4
  simp only [Array.length_toList,List.length_map] at this
  rw [this]; exact (Paired.length r).symm
 refine ⟨g,h2,es,ep,h3,l,fun i e he=>?_⟩
 have he':es.toList[i]?=some e:=by simpa using he
 rw [h4,List.getElem?_map] at he'
 cases q:xs[i]? with
 | none=>rw [q] at he'; cases he'
 | some p =>
  rw [q] at he'
  cases he'
  have hi:i < kvs.length:=by rw [<-l]; exact (Array.getElem?_eq_some_iff.mp he).1
  obtain ⟨p',e1,e2,e3,e4⟩:=paired_get r i kvs[i] (by simp [hi])
  rw [q] at e1; cases e1
  exact ⟨kvs[i].1,kvs[i].2,p.2.1,by simp [hi],rfl,e4,e3⟩
section
variable {X:Cx} {G:Fc} {tg iter:Expr}
theorem Rpk.at {K:PySem.W.Frag} {H:Hp} {O:Addr->Prop}:∀ {kvs:List (List Int × D)} {ws:List (List Key × V)} {i:Nat} {kd:List Int × D},Rpk K H O kvs ws->kvs[i]?=some kd->∃ v,ws[i]?=some (kd.1.map Sum.inl,v)/\Rp K H O kd.2 v
 | [],_,_,_,_,e=>by simp at e
 | (k,d) :: r,ws,0,kd,h,e=>by
  unfold Rpk at h
  obtain ⟨v,r',rfl,p,q⟩:=h
  simp at e; subst e
  unfold Rpq at p
  exact ⟨v,rfl,p⟩
 | (k,d) :: r,ws,i + 1,kd,h,e=>by
  unfold Rpk at h
  obtain ⟨v,r',rfl,p,q⟩:=h
  simpa using Rpk.at q (by simpa using e)
theorem key_rpT {K:PySem.W.Frag} {H:Hp} {O:Addr->Prop} {k:List Int} {b:Addr} (s:Sane H O) (h:H b=some (.tup ((k.map (Sum.inl:Int->Key)).map kV))):Rp K H O (kT k) (.ref b):=by
 unfold kT Rp
 refine ⟨b,k.map V.int,rfl,s.tup h,?_,rps_of_ints _⟩
 rw [h,List.map_map]; rfl
end
end M

set_option Elab.async false
set_option linter.all false
set_option maxRecDepth 100000
namespace M
open PySem PySem.W PySem.Spec PyProof.Rows L2
section
variable {prog:Program} {w:World} {A:Around} {E:Value->Shared->Prop} {s:Shared} {d it v:Addr} {es:Array DictEntry} {ep:Nat}
theorem raw_items {Q:Value->Shared->Prop} (hd:(d == sysModules)=false) (x:RawD s.heap d es ep) (q:Q (.ref s.heap.objs.size) { s with heap:=s.heap.push { cls:=.type "dict_items",data:=.fields #[.ref d] } }) :
  wpAny (model prog w) A (call (.builtin "dict.items") [.ref d]) Q E s:=by
 have hT:=x.type
 refine wpAny_call_entry F.slot_dict_items hT F.entry_dict_items ?_ (F.args_dict_items_1 _)
 unfold Builtin.«dict.items»
 refine wpAny_bind ?_
 unfold Builtin.Dict.noArgs
 refine wpAny_bind (wpAny_notOrdered_dict hT ?_)
 show wpAny _ _ (pure d) _ _ s
 refine wpAny_pure ?_
 show wpAny _ _ (Builtin.Dict.showsAll d >>= _) _ _ s
 unfold Builtin.Dict.showsAll
 rw [hd,if_neg Bool.false_ne_true]
 exact wpAny_bind (wpAny_pure (wpAny_bind (wpAny_newObj_type (wpAny_pure ⟨_,rfl,q⟩))))
theorem raw_iterI {Q:Value->Shared->Prop} (hv:s.heap.IsItemsView v d) (x:RawD s.heap d es ep)
  (hQ:Q (.ref s.heap.objs.size) { s with heap:=s.heap.push { cls:=.type "dict_itemiterator",data:=.fields #[.none,.bool false,.ref d,.int 0 0,.int es.size 0,.int ep 0,.none,.none] } }) :
  wpAny (model prog w) A (pyIter (.ref v)) Q E s:=by
 obtain ⟨ov,hov,hcv,hdv⟩:=id hv
 obtain ⟨o,ho,hc,hdat⟩:=id x
 refine wpAny_pyIter_slot hv.typeIs F.slot_dict_items_iter (wpAny_call_entry F.slot_dict_items_iter hv.typeIs F.entry_dict_items_iter ?_ (F.args_dict_items_iter_1 _))
 unfold Builtin.«dict_items.__iter__»
 refine wpAny_bind (wpAny_pure (wpAny_bind ?_))
 unfold Builtin.Dict_items.dictOf
 refine wpAny_bind (wpAny_field hov hdv (x:=.ref d) rfl (wpAny_pure (wpAny_bind ?_)))
 unfold Builtin.Dict_items.newIterator
 refine wpAny_bind (wpAny_dictEntries ho hdat (wpAny_bind (wpAny_dictEpoch ho hdat ?_)))
 simp only [show Builtin.Dict_items.ownsTuple "dict_itemiterator"=true by decide,if_true]
 refine wpAny_newObj_type (wpAny_pure ⟨_,rfl,"dict_itemiterator",_,⟨_,Heap.get?_push_size _ rfl,rfl⟩,F.slot_dict_itemiterator_next.lookup,?_⟩)
  (by simp only [sizeOk,Builtin.Dict_items.ownedTupleFields,List.size_toArray,List.length_append,List.length_cons,List.length_nil,sizeLine_eq]; omega)
 simpa [rawInt,Builtin.Dict_items.ownedTupleFields] using hQ
theorem raw_nextI {i:Nat} {e:DictEntry} {ok ov:Value} {Q:Option Value->Shared->Prop} (hit:IsItemIter s.heap it d i es.size ep ok ov) (x:RawD s.heap d es ep) (hx:es[i]?=some e)
  (hQ:∀ h',IsItemIterOut h' it d (i + 1) es.size ep e.key e.val s.heap.objs.size->h'.get? s.heap.objs.size=some { cls:=.type "tuple",data:=.seq #[e.key,e.val] } →
   (∀ b o,b ≠ it->s.heap.get? b=some o->h'.get? b=some o)->Q (some (.ref s.heap.objs.size)) { s with heap:=h' }):wpAny (model prog w) A (pyNext (.ref it)) Q E s:=by
 obtain ⟨hp,g,dr,tk,os⟩:=s
 obtain ⟨od,hod,hcd,hdd⟩:=x
 have hT:Shared.TypeIs ⟨hp,g,dr,tk,os⟩ (.ref it) "dict_itemiterator":=⟨_,hit,rfl⟩
 unfold pyNext
 refine wpAny_bind (wpAny_attempt (wpAny_callSpecial?_slot (name:=Str.ofString "__next__") hT F.slot_dict_itemiterator_next
  (wpAny_call_entry F.slot_dict_itemiterator_next hT F.entry_dict_itemiterator_next ?_ (F.args_dict_itemiterator_next_1 _))))
 refine wpAny_bind (wpAny_pure (wpAny_bind (wpAny_bind ?_)))
 first | refine wpAny_bind (wpAny_typeNameOfWhole_itemiter hT (wpAny_pure ?_)) | refine wpAny_bind (wpAny_typeNameOf_itemiter hT (wpAny_pure ?_))
 refine wpAny_bind (wpAny_fieldsOf hit rfl ?_)
 simp only [show Builtin.Dict_items.ownsTuple "dict_itemiterator"=true by decide,if_true]
 show wpAny _ _ (if (Value.ref d == Value.none)=true then _ else _) _ _ _
 rw [if_neg (show ¬ ((Value.ref d == Value.none)=true) from Bool.false_ne_true)]
 refine wpAny_bind (wpAny_pure (wpAny_bind (wpAny_dictEntries hod hdd ?_)))
 rw [if_neg (by simp)]
 refine wpAny_bind (wpAny_pure (wpAny_bind (wpAny_dictEpoch hod hdd ?_)))
 rw [if_neg (by simp)]
 refine wpAny_pure ?_
 simp only [show ¬ ((i:Int) < 0) from by omega,if_false,Int.toNat_natCast,hx]
 refine wpAny_bind ?_
 first | refine wpAny_bind (wpAny_typeNameOfWhole_itemiter hT (wpAny_pure ?_)) | refine wpAny_bind (wpAny_typeNameOf_itemiter hT (wpAny_pure ?_))
 refine wpAny_bind (wpAny_isOneOf_itemiter hT ?_)
 show wpAny _ _ (setField (.ref it) 3 (rawInt ((i:Int) + 1)) >>= _) _ _ ⟨hp,g,dr,tk,os⟩
 refine wpAny_bind (wpAny_setField_rec hit (by simp) fun h₁ he₁ hs₁=>?_)
 replace hs₁:Heap.SameBut it hp h₁:=hs₁
 replace he₁:IsItemIter h₁ it d (i + 1) es.size ep ok ov:=by
  have e:((i + 1:Nat):Int)=(i:Int) + 1:=by omega
  unfold IsItemIter; rw [e]; simpa [rawInt] using he₁
 have hT₁:Shared.TypeIs ⟨h₁,g,dr,tk,os⟩ (.ref it) "dict_itemiterator":=⟨_,he₁,rfl⟩
 refine wpAny_bind (wpAny_holding (wpAny_bind (wpAny_isOneOf_itemiter hT₁ (wpAny_bind (wpAny_isOneOf_itemiter hT₁ ?_)))))
 show wpAny _ _ (Builtin.Dict_items.pairFromOwner (.ref it) 6 e.key e.val) _ _ ⟨h₁,g,dr,tk,os⟩
 unfold Builtin.Dict_items.pairFromOwner
 refine wpAny_bind (wpAny_newTuple ?_)
 have he₂:IsItemIter (h₁.push { cls:=.type "tuple",data:=.seq #[e.key,e.val] }) it d (i + 1) es.size ep ok ov:=Heap.get?_push_of_some _ he₁
 generalize hh₂:h₁.push { cls:=.type "tuple",data:=.seq #[e.key,e.val] }=h₂ at he₂
 have hz₁:h₁.objs.size=hp.objs.size:=hs₁.1
 have hil:it < hp.objs.size:=Heap.lt_size hit
 have ht₂:h₂.get? hp.objs.size=some { cls:=.type "tuple",data:=.seq #[e.key,e.val] }:=by rw [<-hh₂,<-hz₁]; exact Heap.get?_push_size _ rfl
 have hk₂:∀ b o,b ≠ it->hp.get? b=some o->h₂.get? b=some o:=fun b o hb e=>by rw [<-hh₂]; exact Heap.get?_push_of_some _ (hs₁.extBut b o hb e)
 show wpAny _ _ (Builtin.Dict_items.ownedTupleIsFree (.ref it) >>= _) _ _ ⟨h₂,g,dr,tk,os⟩
 rw [hz₁]
 clear hh₂ he₁ hs₁ hT₁ hz₁ h₁
 refine wpAny_bind ?_
 unfold Builtin.Dict_items.ownedTupleIsFree
 refine wpAny_bind (wpAny_field he₂ rfl (x:=.none) rfl (wpAny_pure ?_))
 simp only [if_true]
 refine wpAny_bind (wpAny_field he₂ rfl (x:=ok) rfl (wpAny_bind (wpAny_field he₂ rfl (x:=ov) rfl ?_)))
 refine wpAny_bind (wpAny_setField_rec he₂ (by simp) fun h₃ he₃ hs₃=>?_)
 replace hs₃:Heap.SameBut it h₂ h₃:=hs₃
 replace he₃:IsItemIter h₃ it d (i + 1) es.size ep e.key ov:=he₃
 refine wpAny_bind (wpAny_setField_rec he₃ (by simp) fun h₄ he₄ hs₄=>?_)
 replace hs₄:Heap.SameBut it h₃ h₄:=hs₄
 replace he₄:IsItemIter h₄ it d (i + 1) es.size ep e.key e.val:=he₄
 refine wpAny_bind (wpAny_setField_rec he₄ (by simp) fun h₅ he₅ hs₅=>?_)
 replace hs₅:Heap.SameBut it h₄ h₅:=hs₅
 replace he₅:IsItemIterOut h₅ it d (i + 1) es.size ep e.key e.val hp.objs.size:=he₅
 refine wpAny_bind (wpAny_setField_rec he₅ (by simp) fun h₆ he₆ hs₆=>?_)
 replace hs₆:Heap.SameBut it h₅ h₆:=hs₆
 replace he₆:IsItemIterOut h₆ it d (i + 1) es.size ep e.key e.val hp.objs.size:=he₆
 refine wpAny_bind (wpAny_letGo (wpAny_pure (wpAny_pure ⟨_,rfl,wpAny_pure (hQ h₆ he₆ ?_ ?_)⟩)))
 ·exact hs₆.extBut _ _ (Nat.ne_of_gt hil) (hs₅.extBut _ _ (Nat.ne_of_gt hil) (hs₄.extBut _ _ (Nat.ne_of_gt hil) (hs₃.extBut _ _ (Nat.ne_of_gt hil) ht₂)))
 ·exact fun b o hb e=>hs₆.extBut b o hb (hs₅.extBut b o hb (hs₄.extBut b o hb (hs₃.extBut b o hb (hk₂ b o hb e))))
theorem raw_endI {i:Nat} {ok ov:Value} {Q:Option Value->Shared->Prop} (hh:A.handled=none) (hit:IsItemIter s.heap it d i es.size ep ok ov) (x:RawD s.heap d es ep) (hx:es[i]?=none)
  (hQ:∀ h',Heap.ExtBut it s.heap h'->Q none { s with heap:=h' }):wpAny (model prog w) A (pyNext (.ref it)) Q E s:=by
 obtain ⟨od,hod,hcd,hdd⟩:=x
 have hT:s.TypeIs (.ref it) "dict_itemiterator":=⟨_,hit,rfl⟩
 unfold pyNext
 refine wpAny_bind (wpAny_attempt (wpAny_callSpecial?_slot (name:=Str.ofString "__next__") hT F.slot_dict_itemiterator_next
  (wpAny_call_entry F.slot_dict_itemiterator_next hT F.entry_dict_itemiterator_next ?_ (F.args_dict_itemiterator_next_1 _))))
 refine wpAny_bind (wpAny_pure (wpAny_bind (wpAny_bind ?_)))
 first | refine wpAny_bind (wpAny_typeNameOfWhole_itemiter hT (wpAny_pure ?_)) | refine wpAny_bind (wpAny_typeNameOf_itemiter hT (wpAny_pure ?_))
 refine wpAny_bind (wpAny_fieldsOf hit rfl ?_)
 simp only [show Builtin.Dict_items.ownsTuple "dict_itemiterator"=true by decide,if_true]
 show wpAny _ _ (if (Value.ref d == Value.none)=true then _ else _) _ _ s
 rw [if_neg (show ¬ ((Value.ref d == Value.none)=true) from Bool.false_ne_true)]
 refine wpAny_bind (wpAny_pure (wpAny_bind (wpAny_dictEntries hod hdd ?_)))
 rw [if_neg (by simp)]
 refine wpAny_bind (wpAny_pure (wpAny_bind (wpAny_dictEpoch hod hdd ?_)))
 rw [if_neg (by simp)]
 refine wpAny_pure ?_
 simp only [show ¬ ((i:Int) < 0) from by omega,if_false,Int.toNat_natCast,hx]
 refine wpAny_bind ?_
 first | refine wpAny_bind (wpAny_typeNameOfWhole_itemiter hT (wpAny_pure ?_)) | refine wpAny_bind (wpAny_typeNameOf_itemiter hT (wpAny_pure ?_))
 show wpAny _ _ (setField (.ref it) 2 .none >>= _) _ _ s
 refine wpAny_bind (wpAny_setField hit rfl (by simp) ?_)
 show wpAny _ _ (newExc (.type "StopIteration") [] >>= _) _ _ _
 refine wpAny_bind ?_
 simp only [newExc,newTuple]
 refine wpAny_bind (wpAny_newObj_type ?_ (by size_fits))
 refine wpAny_bind (m:=firstArgMember _ _) (wpAny_of_eq (a:=Value.none) (by first | rfl | (simp only [firstArgMember]; rfl)) (wpAny_newObj_type ?_ (by size_fits)))
 simp only [raiseNew]
 refine wpAny_bind (wpAny_handled ?_)
 rw [show A.in1.handled=none from hh]
 refine wpAny_bind (wpAny_pure (wpAny_throw ?_))
 refine wpAny_bind (wpAny_isInstance (T:="StopIteration") (b:=true) ⟨_,Heap.get?_push_size _ rfl,rfl⟩ isSubtype_stop ?_)
 exact wpAny_pure (hQ _ (((Heap.SameBut.update ..).extBut.push _).push _))
end
end M

set_option Elab.async false
set_option linter.all false
set_option maxRecDepth 100000
namespace M
open PySem PySem.W PySem.Spec PyProof.Rows L2
noncomputable def Iti (a:Addr) (o:Obj) (kvs:List (List Key × V)):It :=
 ⟨fun i H=>H a=some (.frz o (.dT kvs))/\i < kvs.length,fun i H x H'=>∃ T k v b,kvs[i]?=some (k,v)/\x=.ref T/\H T=none/\H b=some (.tup (k.map kV))/\H'=upd H T (.tup [.ref b,v]),fun i H=>H a=some (.frz o (.dT kvs))/\kvs.length<=i⟩
theorem iter_items {prog:Program} {w:World} {A:Around} {E:Value->Shared->Prop} {s:Shared} {it d:Addr} {i n ep:Nat} {ok ov:Value} {Q:Value->Shared->Prop} (hit:IsItemIter s.heap it d i n ep ok ov) (h:Q (.ref it) s):wpAny (model prog w) A (pyIter (.ref it)) Q E s:=by
 have hT:s.TypeIs (.ref it) "dict_itemiterator":=⟨_,hit,rfl⟩
 refine wpAny_pyIter_slot hT F.slot_dict_itemiterator_iter (wpAny_call_entry F.slot_dict_itemiterator_iter hT PySem.W.kcp_entry ?_ (F.args_dict_itemiterator_iter_1 _))
 show wpAny _ _ (ret (.ref it)) _ _ s
 exact wpAny_pure ⟨_,rfl,"dict_itemiterator",_,hT,F.slot_dict_itemiterator_next.lookup,h⟩
theorem turn_items {P:Program} {w:World} {K:PySem.W.Frag} {elts:List Expr} {tk:Nat} {tpos:Pos} (a it:Addr) (o:Obj) (kvs:List (List Key × V)) (hx:o.ExactDict) (es:Array DictEntry) (ep:Nat) (hd:o.data=.dict es ep) :
  Turn P w K (.Tuple elts tk tpos) (Iti a o kvs) [it] it (fun i h=>∃ ok ov,IsItemIter h it a i es.size ep ok ov) where
 mem:=by simp
 obj:=fun i h st b hb=>by
  have e:b=it:=by simpa using hb
  subst e
  obtain ⟨ok,ov,e⟩:=st
  exact ⟨_,e,fun v z=>by cases z⟩
 keep:=fun i h h' st k=>by obtain ⟨ok,ov,e⟩:=st; exact ⟨ok,ov,k it (by simp) _ e⟩
 item:=by
  intro X hP hw hK hc i pins s σ H E I hf st hg
  subst hP hw hK
  obtain ⟨f0,f1,f2,f3,f4,f5⟩:=hf it (by simp)
  obtain ⟨g,_,es',ep',d',l',ent⟩:=raw_frz I hg.1
  rw [hd] at d'; cases d'
  have hi:i < es.size:=by rw [l']; exact hg.2
  obtain ⟨k,v,b,e1,e2,e3,e4⟩:=ent i es[i] (by simp [hi])
  obtain ⟨ok,ov,st⟩:=st
  have hil:it < s.heap.objs.size:=Heap.lt_size st
  refine raw_nextI st ⟨o,g,hx,hd⟩ (e:=es[i]) (by simp [hi]) fun h' st' hT hk=>⟨_,rfl,?_⟩
  refine wpAny_letOwnedTupleGo_items st' fun h'' st'' hs''=>?_
  have nT:H s.heap.objs.size=none:=I.hok.fresh (Nat.le_refl _)
  have hT':=hs''.extBut _ _ (Nat.ne_of_gt hil) hT
  have I':Inv X pins σ (upd H s.heap.objs.size (.tup [.ref b,v])) { s with heap:=h'',toks:=s.toks }:=turnLaid I hf (fun c o hc e=>by
    have hc:c ≠ it:=by simpa using hc
    exact hs''.extBut c o hc (hk c o hc e)) (Nat.le_refl _)
   ⟨by rw [sizeLine_eq]; simp,[es[i].key,es[i].val],.cons e2 (.cons e3 .nil),_,hT',rfl,0,rfl⟩
  exact ⟨.ref s.heap.objs.size,_,I',rfl,⟨_,k,v,b,e1,rfl,nT,e4,rfl⟩,⟨_,_,st''⟩,fun c hc=>by
   have hc:c=it:=by simpa using hc
   subst hc
   rw [upd_ne (Nat.ne_of_lt hil)]; exact f0⟩
 done:=by
  intro X hP hw hK hc i pins s σ H E I hf st hg
  subst hP hw hK
  obtain ⟨f0,f1,f2,f3,f4,f5⟩:=hf it (by simp)
  obtain ⟨g,_,es',ep',d',l',ent⟩:=raw_frz I hg.1
  rw [hd] at d'; cases d'
  obtain ⟨ok,ov,st⟩:=st
  exact raw_endI (I.ok.hd hc) st ⟨o,g,hx,hd⟩ (by simp; rw [l']; exact hg.2) fun h' eb=>⟨rfl,I.turned (t':=s.toks) (fun b o hb e=>eb b o hb e) f0 f1 f3 f4 f5⟩
 self:=fun _ _ _ _ _ st h=>by obtain ⟨ok,ov,st⟩:=st; exact iter_items st h
noncomputable def iDiT (tl:TE):TI:=fun σ H R=>tl σ H fun x H1=>∃ a o kvs,x=.ref a/\H1 a=some (.frz o (.dT kvs))/\R (Iti a o kvs) H1
section
variable {X:Cx} {G:Fc} {o tg:Expr} {apos cpos tpos:Pos} {elts:List Expr} {tk:Nat} {tl:TE}
theorem pi_items (ho:PE X o tl) (hbase:attributeBase o "items" X.env (eval o X.env)=eval o X.env:=by rfl) (hline:(apos.endLine == cpos.line)=true:=by rfl):PI X (.Tuple elts tk tpos) (.Call (.Attribute o "items" apos) [] [] cpos) (iDiT tl):=by
 intro pins s σ H R I h
 refine wpAny_Call_method0_late hbase hline (thn (ho pins s σ H _ I h) ?_)
 rintro v s1 ⟨x,H1,I1,r1,q1⟩
 obtain ⟨a,ob,kvs,rfl,e2,q2⟩:=q1
 cases r1
 obtain ⟨g,hx,es,ep,hd,l,ent⟩:=raw_frz I1 e2
 have lo:(a == sysModules)=false:=((I1.hok a _ e2).2).2.1
 have rw0:RawD s1.heap a es ep:=⟨ob,g,hx,hd⟩
 refine ⟨"dict","dict.items",F.plainAttrs_dict,F.slot_dict_items,F.type_dict_items,rw0.type,fun b eb=>by cases eb; exact ⟨ob,g,hx.2.1⟩,Calls.callWith_builtin rfl (PySem.evalArgs_none (raw_items lo rw0 ?_))⟩
 refine raw_iterI (d:=a) (es:=es) (ep:=ep) ⟨_,Heap.get?_push_size _ rfl,rfl,rfl⟩ (rw0.at fun o e=>Heap.get?_push_of_some _ e) ?_
 have I2:=I1.kept (h':=s1.heap.push { cls:=.type "dict_items",data:=.fields #[.ref a] }) (t':=s1.toks) fun b o e=>Heap.get?_push_of_some _ e
 refine ⟨_,[_],_,_,H1,rfl,I2.kept (t':=s1.toks) fun b o e=>Heap.get?_push_of_some _ e,turn_items a _ ob kvs hx es ep hd,⟨_,_,Heap.get?_push_size _ rfl⟩,fun b hb=>?_,q2⟩
 have e:=List.mem_singleton.mp hb
 subst e
 exact I2.fpOk (Nat.le_refl _) (I2.hok.fresh (Nat.le_refl _))
noncomputable def iDv (m:EV):Ev->R (List D):=fun E=>m E >>= fun d=>match d with
 | .dic kvs=>.ok (kvs.map fun kv=>kv.2)
 | _=>.no
noncomputable def iDi (m:EV):Ev->R (List D):=fun E=>m E >>= fun d=>match d with
 | .dic kvs=>.ok (kvs.map fun kv=>.tup [kT kv.1,kv.2])
 | _=>.no
theorem si_items {m:EV} (gd:Gd X) (h:SF X G o m) (hbase:attributeBase o "items" X.env (eval o X.env)=eval o X.env:=by rfl) (hline:(apos.endLine == cpos.line)=true:=by rfl):SI X G (.Tuple elts tk tpos) (.Call (.Attribute o "items" apos) [] [] cpos) (iDi m) :=
 (pi_items h hbase hline).imp fun σ H Q z0=>z0.elim fun E z0=>z0.elim fun hr f=>⟨E,hr,(Fin.bind f).mono fun d p v H1 s1 z=>by
 cases d with
 | dic kvs =>
  unfold Rp at z
  obtain ⟨a,ws,rfl,no,⟨o,ha⟩,rs⟩:=z
  refine ⟨a,o,ws,rfl,ha,p _ H1 s1 fun G' E' σ' H' le r'=>?_⟩
  have hl':=(locked le r' _ _ no ha).1
  refine ⟨⟨hl',by simp [rs.length]⟩,fun i d hd=>?_⟩
  rw [List.getElem?_map,Option.map_eq_some_iff] at hd
  obtain ⟨kd,e1,rfl⟩:=hd
  obtain ⟨v,e2,pv⟩:=rs.at e1
  refine ⟨⟨hl',(List.getElem?_eq_some_iff.mp e2).1⟩,fun x H'' ⟨T,k,v',b,e3,e4,nT,hb,e5⟩=>?_⟩
  subst e4 e5
  rw [e2] at e3; cases e3
  have sm:=same_upd (o:=.tup [.ref b,v]) nT
  refine ⟨sm,?_⟩
  unfold Rp
  refine ⟨T,[.ref b,v],rfl,r'.fresh nT,upd_same,Rps.cons ((key_rpT r'.sane hb).mono sm fun _ z=>z) (Rps.cons ((pv.move (locked le r')).mono sm fun _ z=>z) Rps.nil)⟩
 | _=>exact p.elim⟩
end
end M

set_option Elab.async false
set_option linter.all false
set_option maxRecDepth 100000
namespace M
open PySem PySem.W PySem.Spec PyProof.Rows L2
noncomputable def eGet (a b c:EV):EV:=fun E=>a E >>= fun x=>match x with
 | .dic kvs=>b E >>= fun y=>c E >>= fun z=>ofO ((keyOf y).map fun ks=>(dget kvs ks).getD z)
 | _=>.no
section
variable {X:Cx} {G:Fc} {o k z:Expr} {mo mk mz:EV} {apos cpos:Pos}
theorem sf_dget2 (gd:Gd X) (ho:SE X G o mo) (hk:SE X G k mk) (hz:SF X G z mz) (m:L2.M2 X o "get" apos k z cpos:=by exact ⟨rfl,rfl,rfl,rfl⟩):SF X G (.Call (.Attribute o "get" apos) [k,z] [] cpos) (eGet mo mk mz) :=
 (pe_dget2 (hu1 gd) ho hk hz m).imp fun σ H Q z0=>z0.elim fun E z0=>z0.elim fun hr f=>⟨E,hr,(Fin.bind f).mono fun dx fx v H1 s1 p1=>by
  cases dx with
  | dic kvs =>
   obtain ⟨a,ws,rfl,ha,rk⟩:=id p1.dic
   refine ⟨a,rfl,.inr ⟨ws,ha⟩,E,hr.same s1,(Fin.bind fx).mono fun dy fy w H2 s2 p2=>⟨E,(hr.same s1).same s2,(Fin.bind fy).mono fun dz fz u H3 s3 p3=>?_⟩⟩
   obtain ⟨d,e,p⟩:=Fin.of fz
   simp only [Option.map_eq_some_iff] at e
   obtain ⟨ks,e1,rfl⟩:=e
   obtain ⟨b,rfl,hb⟩:=key_of' e1 (p2.mono s3 fun _ z=>z)
   obtain ⟨a',ws',ea,ha',rk'⟩:=(p1.mono (s2.trans s3) fun _ z=>z).dic
   cases ea
   have g:=rk'.get ks
   refine ⟨_,dget_rd ha' hb,p _ H3 ((s1.trans s2).trans s3) ?_⟩
   cases q:dget kvs ks with
   | none=>rw [q] at g; dsimp only at g; rw [g]; exact p3
   | some d'=>rw [q] at g; obtain ⟨v',g1,g2⟩:=g; rw [g1]; exact g2
  | _=>exact fx.elim⟩
end
end M

set_option Elab.async false
set_option linter.all false
set_option maxRecDepth 100000
namespace M
open PySem PySem.W PySem.Spec PyProof.Rows L2
noncomputable def small:List (List Int):=(List.range 9).flatMap fun a=>(List.range 9).map fun b=>[Int.ofNat a,Int.ofNat b]
noncomputable def hsh (k:List Int):Int:=reduceHash (Builtin.Tuple.tupleHashOf (k.map hashInt))
section
variable {prog:Program} {w:World} {A:Around} {E:Value->Shared->Prop} {s:Shared} {d:Addr} {o:Obj} {es:Array DictEntry} {ep:Nat}
end

section
variable {X:Cx}
end

noncomputable def fDcopy:D->Option D
 | .dic kvs=>if (kvs.all fun kv=>decide (kv.1 ∈ small))=true then some (.dic kvs) else none
 | _=>none
section
variable {X:Cx} {G:Fc} {p pos:Pos} {e:Expr} {m:EV}
end
end M

set_option Elab.async false
set_option linter.all false
set_option maxRecDepth 100000
namespace M
open PySem PySem.Spec PyProof.Rows L2
theorem len1 {α:Type}:∀ {us:List α},us.length=1->∃ a,us=[a]
 | [a],_=>⟨a,rfl⟩
theorem len2 {α:Type} {us:List α} (h:us.length=2):∃ a b,us=[a,b]:=by
 cases us with
 | nil=>cases h
 | cons a us=>obtain ⟨b,e⟩:=len1 (Nat.succ.inj h); exact ⟨a,b,by rw [e]⟩
theorem len3 {α:Type} {us:List α} (h:us.length=3):∃ a b c,us=[a,b,c]:=by
 cases us with
 | nil=>cases h
 | cons a us=>obtain ⟨b,c,e⟩:=len2 (Nat.succ.inj h); exact ⟨a,b,c,by rw [e]⟩
noncomputable def flatsB:List D->Bool
 | []=>true
 | d :: r=>flatB d && flatsB r
noncomputable def rowB:D->Bool
 | .tup ds=>flatsB ds
 | d=>flatB d
noncomputable def rowsB:List D->Bool
 | []=>true
 | d :: r=>rowB d && rowsB r
noncomputable def rows2:D->R D
 | .lst ds=>if rowsB ds=true then .ok (.lst ds) else .no
 | _=>.no
noncomputable def eLooseN (i:Nat) (m:EV):EV:=fun E=>match E[i]? with
 | some (.ow (.lst _))=>m (frz i E) >>= rows2
 | _=>.no
section
variable {K:PySem.W.Frag} {H:Hp} {O:Addr->Prop} {a:Addr} {us:List V}
end
section
variable {X:Cx} {G:Fc} {e:Expr} {m:EV}
end
end M

set_option Elab.async false
set_option linter.all false
set_option maxRecDepth 100000
namespace M
open PySem PySem.Spec PyProof.Rows L2
noncomputable def orA (pr:Addr->Prop) (a:Addr):Addr->Prop:=fun b=>pr b\/b=a
noncomputable def xRetP (i:Nat) (m:EV):EX:=fun E=>match E[i]? with
 | some (.ow (.dic c))=>m E >>= fun d=>.ok (.rt (.tup [d,.dic c]))
 | _=>.no
section
variable {X:Cx} {G:Fc} {i:Nat} {a:Addr} {st:Stmt} {rest:List Stmt} {m n:EX} {e:Expr} {me:EV} {pos:Pos}
end
section
variable {X:Cx} {G:Fc} {i:Nat} {a:Addr} {elt iter tg:Expr} {ifs:List Expr} {body:List Stmt} {scope:Scope} {pos:Pos} {ts:List Nat} {set:D->Ev->Option Ev} {mi:Ev->R (List D)} {mt:Ev->R Bool} {me:EV} {mb:EX}
end
open Classical in
noncomputable def offA (H:Hp) (a:Addr):Hp:=fun b=>if b=a then none else H b
noncomputable abbrev Kvs:=List (List Int × D)
noncomputable def spM (K:PySem.W.Frag) (n:Nat) (dn:List D->Kvs->R (D × Kvs)):Sp:=fun vs H Q _=>vs.length=n/\∃ (pr:Addr->Prop) (ds:List D) (us:List V) (a:Addr) (c:Kvs),vs=us++[.ref a]/\ds.length + 1=n/\¬ pr a/\(∀ b,pr b->∃ o,H b=some o/\NoTup o) ∧
 Rps K H (orA pr a) ds us/\Own K H (orA pr a) (.dic c) a/\Fin (dn ds c) (fun p=>∀ v H',Same (offA H a) H'->Rp K H' (orA pr a) p.1 v->Own K H' (orA pr a) (.dic p.2) a->Q v H') fun _=>False
structure CalM (P:Program) (w:World) (K:PySem.W.Frag) (mg:Str->Option Value) (base:Heap) (x:Str) (ps:List Str) (k:Nat) (dn:List D->Kvs->R (D × Kvs)):Prop where
 ex:∃ (f:Addr) (fd:FuncData),mg x=some (.ref f)/\PySem.W.keepIn K (.ref f)=true/\Binds K fd ps []/\FnOk P w K mg base CX0 k f fd ps (spM K ps.length dn)
section
variable {P:Program} {w:World} {K:PySem.W.Frag} {mg:Str->Option Value} {base:Heap} {x qual:Str} {st:Stmt} {f:Addr} {fd:FuncData} {N ps:List Str} {k i:Nat} {m:EX}
end
section
variable {X:Cx} {G:Fc} {e:Expr} {es:List Expr} {me:EV} {ma:Ev->R (List D)} {j:Nat}
noncomputable def xIfM (j n:Nat) (dn:List D->Kvs->R (D × Kvs)) (ma:Ev->R (List D)) (mo:EV) (ta tb:EX):EX:=fun E=>match E[j]? with
 | some (.ow (.dic c))=>ma E >>= fun ds=>if ds.length + 1=n then dn ds c >>= fun p=>mo (E.set j (.ow (.dic p.2))) >>= fun y=>ofO (fNe p.1 y) >>= fun z=>match z with
  | .bl true=>ta (E.set j (.ow (.dic p.2)))
  | .bl false=>tb (E.set j (.ow (.dic p.2)))
  | _=>.no
  else .no
 | _=>.no
end
end M

set_option Elab.async false
set_option linter.all false
set_option maxRecDepth 100000
namespace M
open PySem PySem.Spec PyProof.Rows L2
noncomputable def xRetT (m:EV) (j:Nat):EX:=fun E=>match E[j]? with
 | some (.ow y)=>m E >>= fun d=>.ok (.rt (.tup [d,y]))
 | _=>.no
section
variable {X:Cx} {G:Fc} {st:Stmt} {rest:List Stmt} {m n:EX} {e:Expr} {me:EV} {pos tpos:Pos}
end
noncomputable def spT (K:PySem.W.Frag) (n:Nat) (den:List D->R D):Sp:=fun vs H Q _=>vs.length=n/\∃ (pr:Addr->Prop) (ds:List D),(∀ a,pr a->∃ o,H a=some o/\NoTup o)/\Rps K H pr ds vs/\Fin (den ds) (fun d=>∀ t a v H' x y,d=.tup [x,y]->Same H H'->H a=none->H' t=some (.tup [v,.ref a])->Own K H' (orA pr a) y a->Q (.ref t) H') fun _=>False
structure CalT (P:Program) (w:World) (K:PySem.W.Frag) (mg:Str->Option Value) (base:Heap) (x:Str) (ps:List Str) (k:Nat) (dn:List D->R D):Prop where
 ex:∃ (f:Addr) (fd:FuncData),mg x=some (.ref f)/\PySem.W.keepIn K (.ref f)=true/\Binds K fd ps []/\FnOk P w K mg base CX0 k f fd ps (spT K ps.length dn)
section
variable {P:Program} {w:World} {K:PySem.W.Frag} {mg:Str->Option Value} {base:Heap} {x qual:Str} {st:Stmt} {f:Addr} {fd:FuncData} {N ps:List Str} {k:Nat} {m:EX}
end
section
variable {X:Cx} {G:Fc} {k j:Nat} {ps:List Str} {dn:List D->R D} {x:Str} {p pos:Pos} {e:Expr} {es:List Expr} {ma:Ev->R (List D)}
end
end M

set_option Elab.async false
set_option linter.all false
set_option maxRecDepth 100000
namespace M
open PySem PySem.Spec PyProof.Rows L2
structure Loose (G:Fc) (E:Ev) (σ:St) (H H':Hp) (js:List Nat) (n:Nat) (as:List Addr):Prop where
 len:as.length=n
 nd:as.Nodup
 lst:∀ a ∈ as,∃ vs,H' a=some (.lst vs)/\vs.length < 999000
 h0:∀ a ∈ as,G.h0 a=none
 out:∀ a ∈ as,H a=none\/∃ j ∈ js,∃ d,E[j]?=some (.ow d)/\σ[j]?=some (some (.ref a))
noncomputable def oOwn (j:Nat) (m:Ev->R (List D)):Ev->R (List D):=fun E=>match E[j]? with
 | some (.ow (.lst ds))=>if ds.length < 999000 then m E else .no
 | _=>.no
section
variable {X:Cx} {G:Fc} {e:Expr} {es:List Expr} {me:EV} {mo:Ev->R (List D)} {js:List Nat} {j:Nat}
end
end M

set_option Elab.async false
set_option linter.all false
set_option maxRecDepth 100000
namespace M
open PySem PySem.W PySem.Spec PyProof.Rows L2 PySem.Calls
structure XCls (K:PySem.W.Frag) (C:Addr):Prop where
 ga:findIn K (.ref C) "__getattribute__"=some (some (.builtin "BaseException.__getattribute__"))
 gn:findIn K (.ref C) "__getattr__"=some none
 cl:findIn K (.ref C) "__class__"=some (some (.builtin "object.__class__"))
 be:mroIn K C (.type "BaseException")=some true
 ob:mroIn K C (.type "object")=some true
section
variable {prog:Program} {w:World} {A:Around} {E:Value->Shared->Prop} {h:Heap} {g:Array GenState} {d:Drawn} {t:Nat} {os:OsState} {a C:Addr} {o:Obj} {vs:Array Value} {K:PySem.W.Frag}
end
end M

set_option Elab.async false
set_option linter.all false
set_option maxRecDepth 100000
namespace M
open PySem PySem.W PySem.Spec PyProof.Rows L2 PySem.Calls
structure Fly (P:Program) (w:World) (l:List Env) (H:Hp) (s:Shared) (C e:Addr) (H':Hp) (s':Shared):Prop where
 os:s'.os=s.os
 bare:AllBare s'.gens
 un:Un (frs l) [] H H' s.heap s'.heap
 hok:HOk P w H' s'.heap
 same:Same H H'
 fr:H' e=none
 fl:∃ B t,Heap.FlyingW B l e (.ref C) (.ref t) s'.heap/\(∀ b o,s.heap.get? b=some o->H b=none->b ∉ frs l->B.get? b=some o)/\∀ b u o,H' b=some u->s'.heap.get? b=some o->B.get? b=some o
section
variable {X:Cx} {pins:List (Addr × Obj)} {σ:L2.St} {H H':Hp} {s s':Shared} {B h':Heap} {C e:Addr}
end
end M

set_option Elab.async false
set_option linter.all false
set_option maxRecDepth 100000
namespace M
open PySem PySem.W PySem.Spec PyProof.Rows L2 PySem.Calls
noncomputable def cname:Nat->Str
 | 0=>"NoFloor"
 | 1=>"NoLaying"
 | 2=>"NotPlain"
 | 3=>"NoTurn"
 | 4=>"NoNumber"
 | _=>"NoNote"
structure Link (X:Cx) (G:Fc):Prop where
 made:∀ {pins:List (Addr × Obj)} {σ:L2.St} {H:Hp} {s:Shared} {h':Heap} {e C:Addr} {c:Nat} {args:List Value},Inv X pins σ H s->Same G.h0 H->X.mg (cname c)=some (.ref C)->G.xc c->Heap.MadeExcOf s.heap h' e (.ref C) args->X.xe (.ref e) { s with heap:=h' }
 flew:∀ {pins:List (Addr × Obj)} {σ:L2.St} {H:Hp} {s:Shared} {H':Hp} {s':Shared} {e C:Addr} {c:Nat},Inv X pins σ H s->Same G.h0 H->X.mg (cname c)=some (.ref C)->G.xc c->Fly X.prog X.w X.stack H s C e H' s'->X.xe (.ref e) s'
noncomputable def CXE (P:Program) (w:World):CXT:=fun outer H s E e s'=>∃ a C H',e=.ref a/\Fly P w outer H s C a H' s'/\E e (some C) H'
noncomputable def spE (K:PySem.W.Frag) (mg:Str->Option Value) (n:Nat) (den:List D->R D):Sp:=fun vs H Q E=>vs.length=n/\∃ (pr:Addr->Prop) (ds:List D),(∀ a,pr a->∃ o,H a=some o/\NoTup o)/\Rps K H pr ds vs/\Fin (den ds) (fun d=>∀ v H',Same H H'->Rp K H' pr d v->Q v H') fun c=>∀ e C H',mg (cname c)=some (.ref C)->Same H H'->E e (some C) H'
structure CalE (P:Program) (w:World) (K:PySem.W.Frag) (mg:Str->Option Value) (base:Heap) (x:Str) (ps:List Str) (k:Nat) (dn:List D->R D):Prop where
 ex:∃ (f:Addr) (fd:FuncData),mg x=some (.ref f)/\PySem.W.keepIn K (.ref f)=true/\Binds K fd ps []/\FnOk P w K mg base (CXE P w) k f fd ps (spE K mg ps.length dn)
section
variable {P:Program} {w:World} {K:PySem.W.Frag} {mg:Str->Option Value} {base:Heap} {x qual:Str} {st:Stmt} {f:Addr} {fd:FuncData} {N ps:List Str} {k:Nat} {m:EX}
end
noncomputable def calm {α:Type} (m:Ev->R α):Ev->R α:=fun E=>match m E with
 | .ok a=>.ok a
 | _=>.no
@[simp] theorem calm_ok {α:Type} {m:Ev->R α} {E:Ev} {a:α} (h:m E=.ok a):calm m E=.ok a:=by unfold calm; rw [h]
noncomputable def Fc.calm (G:Fc):Fc:={ G with xc:=fun _=>False }
section
variable {X:Cx} {G:Fc}
end
section
variable {X:Cx} {G:Fc} {k:Nat} {f:Addr} {fd:FuncData} {ps:List Str} {dn:List D->R D} {x:Str} {p pos:Pos} {e:Expr} {es:List Expr} {ma:Ev->R (List D)} {sp:Sp} {CX:CXT}
end
end M

set_option Elab.async false
set_option linter.all false
set_option maxRecDepth 100000
namespace M
open PySem PySem.W PySem.Spec PyProof.Rows L2 PySem.Calls
section
variable {X:Cx} {G:Fc}
end
structure XTop (K:PySem.W.Frag) (D:Addr):Prop extends XCls K D where
 ty:typeIn K (.ref D)=some (.type "type")
end M

set_option Elab.async false
set_option linter.all false
set_option maxRecDepth 100000
namespace M
open PySem PySem.W PySem.Spec PyProof.Rows L2 PySem.Calls
noncomputable def HE (X:Cx) (a:Addr) (i:Nat) (e:Expr) (v:V):Prop:=PE X e fun σ H Q=>σ[i]?=some (some (.ref a))/\Q v H
noncomputable def HT (X:Cx) (a:Addr) (i:Nat) (e:Expr) (b:Bool):Prop:=PT X e fun σ H Q=>σ[i]?=some (some (.ref a))/\Q b H
noncomputable def HS (X:Cx) (a:Addr) (i:Nat) (sts:List Stmt) (v:V):Prop:=PSs X sts fun D σ H=>σ[i]?=some (some (.ref a))/\D.rt v H
section
variable {X:Cx} {a C:Addr} {i:Nat} {e e':Expr} {v:V} {b b':Bool} {p p2 p3 pos:Pos} {n y:Str} {sts rest:List Stmt}
end
end M

set_option Elab.async false
set_option linter.all false
set_option maxRecDepth 100000
namespace M
open PySem PySem.W PySem.Spec PyProof.Rows L2 PySem.Calls
section
variable {X:Cx} {pins:List (Addr × Obj)} {σ:L2.St} {H H':Hp} {s s':Shared} {B h':Heap} {C e:Addr} {o:Obj}
noncomputable abbrev hcx (X:Cx) (e:Addr) (o:Obj):Cx:={ X with A:=X.A.mark (some (.ref e)),calm:=false,pn:=(e,o) :: X.pn,xe:=fun _ _=>False }
end
section
variable {X:Cx} {G:Fc} {k j:Nat} {ps:List Str} {dn:List D->R D} {x:Str} {p pos pos':Pos} {e:Expr} {es:List Expr} {ma:Ev->R (List D)}
end
end M

set_option Elab.async false
set_option linter.all false
set_option maxRecDepth 100000
namespace M
open PySem PySem.W PySem.Spec PyProof.Rows L2 PySem.Calls
structure Took (X:Cx) (i:Nat) (D:Addr) (sts:List Stmt) (hd:Nat->Option M.D):Prop where
 at_:∀ c d C e o vs,hd c=some d->X.mg (cname c)=some (.ref C)->o.cls=.ref C->o.data=.fields vs->mroIn X.K C (.ref D)=some true/\∃ v,HS (hcx X e o) e i sts v/\∀ K H O,Rp K H O d v
section
variable {X:Cx} {G:Fc}
end
end M

set_option Elab.async false
set_option linter.all false
set_option maxRecDepth 100000
namespace M
open PySem PySem.W PySem.Spec PyProof.Rows L2 PySem.Calls
noncomputable def hush (dn:List D->R D):List D->R D:=fun ds=>match dn ds with
 | .ok d=>.ok d
 | _=>.no
end M

set_option Elab.async false
set_option linter.all false
set_option maxRecDepth 100000
namespace M
open PySem PySem.W PySem.Spec PyProof.Rows L2 PySem.Calls
theorem vals_ints:∀ {ns:List Int} {its:List Value},Vals (ns.map V.int) its->∃ xs:List (Int × Tok),its=xs.map (fun p=>.int p.1 p.2)/\xs.map (·.1)=ns
 | [],its,h=>by cases h; exact ⟨[],rfl,rfl⟩
 | n :: ns,its,h=>by
  cases h with
  | cons a b =>
   obtain ⟨t,rfl⟩:=a
   obtain ⟨xs,rfl,rfl⟩:=vals_ints b
   exact ⟨(n,t) :: xs,rfl,rfl⟩
noncomputable def nums:List D->Option (List Int)
 | []=>some []
 | .int b :: r=>(nums r).map (b :: ·)
 | _ :: _=>none
@[simp] theorem nums_map:∀ bs:List Int,nums (bs.map D.int)=some bs
 | []=>rfl
 | n :: ns=>by simp [nums,nums_map ns]
noncomputable def fSum:D->Option D
 | .lst ds=>(nums ds).map fun bs=>.int bs.sum
 | _=>none
noncomputable def fShl:D->D->Option D
 | .int i,.int j=>if 0<=j/\j<=1000/\i.natAbs < 2 ^ 63 then some (.int (i * 2 ^ j.toNat)) else none
 | _,_=>none
section
variable {X:Cx} {G:Fc} {e a b:Expr} {m ma mb:EV} {p pos:Pos}
end
end M

set_option Elab.async false
set_option linter.all false
set_option maxRecDepth 100000
namespace M
open PySem PySem.W PySem.Spec PyProof.Rows L2 PySem.Calls
noncomputable def spanI (b w:Int):Int:=Builtin.bitAnd b (-b) * (if w=0 then 3 else 513)
noncomputable def okI (b w:Int):Bool:=decide (Builtin.bitAnd b (spanI b w)=spanI b w)
noncomputable def WF:Nat->Int->Int
 | 0,_=>1
 | n + 1,b=>if b=0 then 1 else (if okI b 0=true then WF n (b - spanI b 0) else 0) + (if okI b 1=true then WF n (b - spanI b 1) else 0)
noncomputable def Dp:Nat->Int->Prop
 | 0,b=>b=0
 | n + 1,b=>b=0\/∀ w:Int,(w=0\/w=1)->okI b w=true->Dp n (b - spanI b w)
noncomputable def WM (b:Int):Int:=WF 40 b
noncomputable def wayI (b w:Int):Int:=if okI b w=true then WM (b - spanI b w) else 0
noncomputable def Good (kvs:List (Key × V)):Prop:=∀ p ∈ kvs,∃ j:Int,p.1=.inl j/\p.2=.int (WM j)
noncomputable def spO (n:Nat):Sp:=fun vs H Q _=>∃ b k kvs,vs=[.int b,.ref k]/\H k=some (.dK kvs)/\Good kvs/\Dp n b/\n<=20/\kvs.length + 2 ^ n<=2 ^ 21/\∀ kvs',Good kvs'->kvs'.length + 1<=kvs.length + 2 ^ n->Q (.int (WM b)) (upd H k (.dK kvs'))
noncomputable def dpB:Nat->Int->Bool
 | 0,b=>decide (b=0)
 | n + 1,b=>decide (b=0) || ((!(okI b 0) || dpB n (b - spanI b 0)) && (!(okI b 1) || dpB n (b - spanI b 1)))
structure CalW (P:Program) (w:World) (K:PySem.W.Frag) (mg:Str->Option Value) (base:Heap) (k n:Nat):Prop where
 ex:∃ (f:Addr) (fd:FuncData),mg "ways_over"=some (.ref f)/\PySem.W.keepIn K (.ref f)=true/\Binds K fd ["bare","known"] []/\FnOk P w K mg base CX0 k f fd ["bare","known"] (spO n)
section
variable {X:Cx} {G:Fc} {e:Expr} {m:EV} {p pos dp:Pos} {j k n:Nat}
end
end M

set_option Elab.async false
set_option linter.all false
set_option maxRecDepth 100000
namespace M
open PySem PySem.W PySem.Spec PyProof.Rows L2 PySem.Calls
end M

set_option Elab.async false
set_option linter.all false
set_option maxRecDepth 100000
namespace M
open PySem PySem.W PySem.Spec PyProof.Rows L2 PySem.Calls
noncomputable def fsq (b:Int):Int × Int:=(((Builtin.Int.intBits (Builtin.bitAnd b (-b)):Int) - 1) / 9,((Builtin.Int.intBits (Builtin.bitAnd b (-b)):Int) - 1) % 9)
noncomputable def toldL:Nat->Int->Int->Int->List D
 | 0,_,_,_=>[]
 | k + 1,b,n,a=>if b=0 then [] else if n < a + wayI b 0 then .tup [.int (fsq b).1,.int (fsq b).2,.int 0] :: toldL k (b - spanI b 0) n a
  else .tup [.int (fsq b).1,.int (fsq b).2,.int 1] :: toldL k (b - spanI b 1) n (a + wayI b 0)
noncomputable def dTold (cf bo:List D->R D):List D->R D:=fun ds=>match ds with
 | [f,.int n]=>hush cf [f] >>= fun _=>hush bo [f] >>= fun d=>match d with
  | .int b=>if dpB 12 b=true then (if 0<=n/\n < WM b then .ok (.lst (toldL 12 b n 0)) else .er 4) else .no
  | _=>.no
 | _=>.no
theorem same_at {H0 H:Hp} {a:Addr} {u:HO} (s:Same H0 H) (n:H0 a=none):Same H0 (upd H a u):=fun b o e=>by
 by_cases h:b=a
 ·subst h; rw [n] at e; cases e
 ·rw [upd_ne h]; exact s b o e
section
variable {X:Cx}
end
end M

set_option Elab.async false
set_option linter.all false
set_option maxRecDepth 100000
set_option maxHeartbeats 4000000
namespace HT
open PySem PyProof.Rows
section
open PySem.SeqAt
open PySem.AutoSeq1 (wpAny_loadPart')
open PySem.MeetsSeq PySem.MeetsSeq2 PySem.MeetsSeq3
noncomputable def ltFrom (n n2:Nat) (e lt:Nat->Bool):Nat->Nat->Bool
 | 0,_=>decide (n < n2)
 | k + 1,i=>if i < n2 then (if e i=true then ltFrom n n2 e lt k (i + 1) else lt i) else decide (n < n2)
end
section
variable {prog:Program} {w:World} {A:Around} {E:Value->Shared->Prop} {s:Shared}
end
end HT
namespace M
open PySem PySem.W PySem.Spec PyProof.Rows L2 PySem.Calls
noncomputable def lexLL:List (List Int)->List (List Int)->Bool
 | [],[]=>false
 | [],_ :: _=>true
 | _ :: _,[]=>false
 | x :: xs,y :: ys=>if x=y then lexLL xs ys else HT.lexLt x y
noncomputable def rowsI:List D->Option (List (List Int))
 | []=>some []
 | .tup ds :: r=>(nums ds).bind fun a=>(rowsI r).map (a :: ·)
 | _ :: _=>none
noncomputable def fLtL (dx dy:D):Option D:=match dx,dy with
 | .lst as,.lst bs=>(rowsI as).bind fun ns=>(rowsI bs).map fun ms=>.bl (lexLL ns ms)
 | _,_=>none
end M

set_option Elab.async false
set_option linter.all false
set_option maxRecDepth 100000
namespace M
open PySem PySem.W PySem.Spec PyProof.Rows L2 PySem.Calls
noncomputable def numL:Int->Int->List D->Option D
 | _,a,[]=>some (.int a)
 | b,a,.tup [_,_,.int w] :: r=>if (w=0\/w=1)/\dpB 12 b=true then numL (b - spanI b w) (if w=1 then a + wayI b 0 else a) r else none
 | _,_,_ :: _=>none
noncomputable def dNum (cl bo:List D->R D):List D->R D:=fun ds=>match ds with
 | [f,.lst gs]=>hush cl [f,.lst gs] >>= fun _=>hush bo [f] >>= fun d=>match d with
  | .int b=>if gs.length<=32 then ofO (numL b 0 gs) else .no
  | _=>.no
 | _=>.no
end M

set_option Elab.async false
set_option linter.all false
set_option maxRecDepth 100000
namespace TS
open PySem PySem.SetTable
noncomputable def adv (mask:Nat) (p:Probe):Probe :=
 if p.more > 0 then { p with j:=p.j + 1,more:=p.more - 1 } else
 { p with j:=(leap mask p.i p.perturb).1,more:=runEnd mask (leap mask p.i p.perturb).1 - (leap mask p.i p.perturb).1,i:=(leap mask p.i p.perturb).1,perturb:=(leap mask p.i p.perturb).2 }
@[simp] theorem advance_eq (t:SetTable) (p:Probe):t.advance p=adv t.mask p:=rfl
noncomputable def st (mask i pert:Nat):Probe:={ j:=i,more:=runEnd mask i - i,i:=i,perturb:=pert,dummy:=none }
noncomputable def pth (mask:Nat) (h:Int):Nat->Probe
 | 0=>st mask (bits h % (mask + 1)) (bits h)
 | n + 1=>adv mask (pth mask h n)
noncomputable def stepF (mask i:Nat):Nat:=(i * 5 + 1) % (mask + 1)
noncomputable def iter (mask:Nat):Nat->Nat->Nat
 | 0,i=>i
 | r + 1,i=>stepF mask (iter mask r i)
noncomputable def Msk (mask:Nat):Prop:=mask=7\/mask=31\/mask=127
end TS

set_option Elab.async false
set_option linter.all false
set_option maxRecDepth 100000
namespace TS
open PySem PySem.SetTable
structure Inc (xs:Array Nat):Prop where
 lt:∀ a b (ha:a < xs.size) (hb:b < xs.size),a < b->xs[a] < xs[b]
structure TOk (t:SetTable) (hs:List Int):Prop where
 msk:Msk t.mask
 dum:t.dummies=#[]
 inc:Inc t.place
 len:t.place.size=hs.length
 bnd:∀ x ∈ t.place.toList,x<=t.mask
 path:∀ (i j:Nat) (h:Int),t.place.toList[i]?=some j->hs[i]?=some h->∃ n,n < 10 * (t.mask + 15)/\(pth t.mask h n).j=j/\∀ m,m < n->(pth t.mask h m).j ∈ t.place.toList
section
variable {t:SetTable} {hs:List Int}
end
end TS

set_option Elab.async false
set_option linter.all false
set_option maxRecDepth 100000
namespace TS
open PySem PySem.SetTable
noncomputable abbrev Own:=Array (Option Nat)
noncomputable def occ (o:Own) (j:Nat):Bool:=(o.getD j none).isSome
noncomputable def lives (mask:Nat) (o:Own):List (Nat × Nat):=(List.range (mask + 1)).filterMap fun j=>(o.getD j none).map (j,·)
structure LOk (mask:Nat) (o:Own) (hs:List Int):Prop where
 size:o.size=mask + 1
 live:((lives mask o).map (·.2)).Perm (List.range hs.length)
 path:∀ (j c:Nat) (h:Int),o.getD j none=some c->hs[c]?=some h->∃ n,n < 10 * (mask + 15)/\(pth mask h n).j=j/\∀ m,m < n->occ o (pth mask h m).j=true
end TS

set_option Elab.async false
set_option linter.all false
set_option maxRecDepth 100000
namespace TS
open PySem PySem.SetTable PyProof.Rows
section
variable {prog:Program} {w:World} {A:Around} {E:Value->Shared->Prop} {s:Shared}
noncomputable abbrev hT (prog:Program) (w:World) (k:List Int):Int:=tupleKeyHash (intKind prog w) k
noncomputable abbrev IsT (prog:Program) (w:World) (h:Heap) (k:List Int) (p:Addr):Prop:=IsTupleKey (intKind prog w) h k p
noncomputable def ent (prog:Program) (w:World) (q:List Int × Addr):Int × Value:=(hT prog w q.1,.ref q.2)
structure SetAt (prog:Program) (w:World) (h:Heap) (a:Addr) (o:Obj) (es:Array (Int × Value)) (ep:Nat) (t:SetTable) (ps:List (List Int × Addr)):Prop where
 get:h.get? a=some o
 ex:o.ExactSet
 data:o.data=.set es ep t
 ents:es.toList=ps.map (ent prog w)
 tab:TOk t (ps.map fun q=>hT prog w q.1)
 room:ps.length * 5 < t.mask * 3
 plain:t.plain=true
 keys:∀ q ∈ ps,IsT prog w h q.1 q.2
 nd:(ps.map (·.1)).Nodup
variable {a:Addr} {o:Obj} {es:Array (Int × Value)} {ep:Nat} {t:SetTable} {ps:List (List Int × Addr)}
end
end TS

set_option Elab.async false
set_option linter.all false
set_option maxRecDepth 100000
set_option maxHeartbeats 4000000
namespace TS
open PySem PySem.SetTable PyProof.Rows
section
variable {prog:Program} {w:World} {A:Around} {R:Result->Shared->Prop} {I:Addr} {fp wr:List Addr} {G:Array GenState->Array GenState->Prop} {n:Nat} {P:Nat->Value->Prop} {St:Nat->Shared->Prop}
end
section
variable {prog:Program} {w:World} {A:Around} {E:Value->Shared->Prop} {s:Shared}
end
end TS

set_option Elab.async false
set_option linter.all false
set_option maxRecDepth 100000
set_option maxHeartbeats 4000000
namespace TS
open PySem PySem.SetTable PyProof.Rows PySem.W
section
variable {prog:Program} {w:World} {A:Around} {E:Value->Shared->Prop} {s:Shared}
variable {a:Addr} {o:Obj} {es:Array (Int × Value)} {ep:Nat} {t:SetTable} {ps:List (List Int × Addr)}
structure SetIt (prog:Program) (w:World) (h:Heap) (a:Addr) (o:Obj) (es:Array (Int × Value)) (ep:Nat) (t:SetTable) (ps:List (List Int × Addr)):Prop where
 get:h.get? a=some o
 ex:o.ExactSet
 data:o.data=.set es ep t
 size:es.size=ps.length
 tab:TOk t (ps.map fun q=>hT prog w q.1)
 fits:t.fits es.size=true
 plain:t.plain=true
end
end TS

set_option Elab.async false
set_option linter.all false
set_option maxRecDepth 100000
set_option maxHeartbeats 4000000
namespace TS
open PySem PySem.SetTable PyProof.Rows PySem.W
section
variable {prog:Program} {w:World} {A:Around} {E:Value->Shared->Prop} {s:Shared}
variable {a it:Addr} {o:Obj} {es:Array (Int × Value)} {ep:Nat} {t:SetTable} {ps:List (List Int × Addr)}
end
end TS

set_option Elab.async false
set_option linter.all false
set_option maxRecDepth 100000
set_option maxHeartbeats 4000000
namespace M
open PySem PySem.W PySem.Spec PyProof.Rows L2 PySem.Calls TS
noncomputable def dd:List (List Int)->List (List Int)
 | []=>[]
 | k :: r=>if k ∈ dd r then dd r else k :: dd r
structure SetOk (prog:Program) (w:World) (H:Hp) (es:Array (Int × Value)) (t:SetTable) (ps:List (List Int × Addr)) (ks:List (List Int)):Prop where
 led:t.led=(!w.params.followText "set-order")
 ents:es.toList=ps.map (ent prog w)
 keys:∀ q ∈ ps,H q.2=some (.tup (q.1.map V.int))
 mem:∀ k,k ∈ ps.map (·.1) ↔ k ∈ ks
 nd:(ps.map (·.1)).Nodup
 len:ps.length<=ks.length
theorem items_are {prog:Program} {w:World}:∀ {k:List Int} {its:List Value},Vals (k.map V.int) its->ItemsAre (intKind prog w) k its
 | [],_,h=>by cases h; exact .nil
 | n :: r,_,h=>by
  cases h with
  | cons h1 h2 =>
   obtain ⟨tk,rfl⟩:=h1
   exact .cons (intKind_is _ _ _ _) (items_are h2)
section
variable {X:Cx}
end
noncomputable def fSortSet:D->Option D
 | .lst ds=>(dTups ds).bind fun ks=>if ks.length < 60 then some (.lst ((sortK (dd ks)).map kT)) else none
 | _=>none
section
variable {X:Cx} {G:Fc} {p p2 pos pos2:Pos} {e:Expr} {m:EV}
end
end M

set_option Elab.async false
set_option linter.all false
set_option maxRecDepth 100000
namespace M
open PySem PySem.Spec PyProof.Rows L2
noncomputable abbrev or2 (pr:Addr->Prop) (a b:Addr):Addr->Prop:=orA (orA pr a) b
noncomputable abbrev off2 (H:Hp) (a b:Addr):Hp:=offA (offA H a) b
noncomputable def xRetQ (i:Nat) (m:EV):EX:=fun E=>match E[i]?,E[i + 1]? with
 | some (.ow (.dic c)),some (.ow (.dic c'))=>m E >>= fun d=>.ok (.rt (.tup [d,.dic c,.dic c']))
 | _,_=>.no
section
variable {X:Cx} {G:Fc} {i:Nat} {a b:Addr} {st:Stmt} {rest:List Stmt} {m n:EX} {e:Expr} {me:EV} {pos:Pos}
end
section
variable {X:Cx} {G:Fc} {i:Nat} {a b:Addr} {iter tg:Expr} {body:List Stmt} {pos:Pos} {ts:List Nat} {set:D->Ev->Option Ev} {mi:Ev->R (List D)} {mb:EX}
end
noncomputable def spQ (K:PySem.W.Frag) (n:Nat) (dn:List D->Kvs->Kvs->R (D × Kvs × Kvs)):Sp:=fun vs H Q _=>vs.length=n/\∃ (pr:Addr->Prop) (ds:List D) (us:List V) (a b:Addr) (c c':Kvs),vs=us++[.ref a,.ref b]/\ds.length + 2=n/\¬ pr a/\¬ pr b/\a ≠ b/\(∀ x,pr x->∃ o,H x=some o/\NoTup o) ∧
 Rps K H (or2 pr a b) ds us/\Own K H (or2 pr a b) (.dic c) a/\Own K H (or2 pr a b) (.dic c') b/\Fin (dn ds c c') (fun p=>∀ v H',Same (off2 H a b) H'->Rp K H' (or2 pr a b) p.1 v->Own K H' (or2 pr a b) (.dic p.2.1) a->Own K H' (or2 pr a b) (.dic p.2.2) b->Q v H') fun _=>False
structure CalQ (P:Program) (w:World) (K:PySem.W.Frag) (mg:Str->Option Value) (base:Heap) (x:Str) (ps:List Str) (k:Nat) (dn:List D->Kvs->Kvs->R (D × Kvs × Kvs)):Prop where
 ex:∃ (f:Addr) (fd:FuncData),mg x=some (.ref f)/\PySem.W.keepIn K (.ref f)=true/\Binds K fd ps []/\FnOk P w K mg base CX0 k f fd ps (spQ K ps.length dn)
section
variable {P:Program} {w:World} {K:PySem.W.Frag} {mg:Str->Option Value} {base:Heap} {x qual:Str} {st:Stmt} {f:Addr} {fd:FuncData} {N ps:List Str} {k i:Nat} {m:EX}
end
noncomputable def callQ (j j' n:Nat) (dn:List D->Kvs->Kvs->R (D × Kvs × Kvs)) (ma:Ev->R (List D)):Ev->R (Bool × Ev):=fun E=>match E[j]?,E[j']? with
 | some (.ow (.dic c)),some (.ow (.dic c'))=>ma E >>= fun ds=>if ds.length + 2=n then dn ds c c' >>= fun p=>(match p.1 with
  | .bl k=>.ok (k,(E.set j (.ow (.dic p.2.1))).set j' (.ow (.dic p.2.2)))
  | _=>.no) else .no
 | _,_=>.no
section
variable {X:Cx} {G:Fc} {e:Expr} {es:List Expr} {me:EV} {ma:Ev->R (List D)} {j j':Nat}
end
end M

set_option Elab.async false
set_option linter.all false
set_option maxRecDepth 100000
namespace M
open PySem PySem.Spec PyProof.Rows L2
section
variable {prog:Program} {w:World} {A:Around} {s:Shared} {I S:Addr} {fp wr:List Addr} {P:Nat->Value->Prop} {St:Nat->Heap->Prop} {R:Result->Shared->Prop}
end
section
variable {prog:Program} {w:World} {A:Around} {E:Value->Shared->Prop} {s:Shared}
end
section
variable {X:Cx} {G:Fc}
noncomputable def fMinT:D->D->Option D
 | .tup a,.tup b=>do let x ← dInts a; let y ← dInts b; pure (if HT.lexLt y x=true then .tup b else .tup a)
 | _,_=>none
end
end M

set_option Elab.async false
set_option linter.all false
set_option maxRecDepth 100000
namespace M
open PySem PySem.Spec PyProof.Rows L2
noncomputable def Ite (K:PySem.W.Frag) (a:Addr):It :=
 ⟨fun i H=>∃ xs x,SqL K H a xs/\xs[i]?=some x,
  fun i H v H'=>∃ T x,v=.ref T/\H T=none/\H'=upd H T (.tup [.int (i:Nat),x])/\∀ xs,SqL K H a xs->xs[i]?=some x,
  fun i H=>∃ xs,SqL K H a xs/\i=xs.length⟩
noncomputable def Its (z:Str):It :=
 ⟨fun i H=>i < z.cps.size,
  fun i H v H'=>∃ T c,v=.ref T/\H T=none/\H'=upd H T (.tup [.int (i:Nat),.str ⟨#[c]⟩])/\z.cps[i]?=some c,
  fun i H=>i=z.cps.size⟩
section
variable {P:Program} {w:World} {K:PySem.W.Frag} {elts:List Expr} {k:Nat} {pos:Pos}
theorem enum_item {X:Cx} {pins:List (Addr × Obj)} {s:Shared} {σ:St} {H:Hp} {E:Value->Shared->Prop} {e it:Addr} {fp:List Addr} {n i:Nat} {Pv:Nat->Value->Prop} {Sd:Nat->Heap->Prop} (I:Inv X pins σ H s) (D:Draws X.prog X.w X.A.in1 it fp n Pv Sd) (hei:e ≠ it) (hef:e ∉ fp) (hif:it ∈ fp)
  (hf:∀ b ∈ [e,it],FpOk X pins H b) (hi:i < n) (he:∃ old,IsEnum s.heap e it i old) (hst:Sd i s.heap) (x:V) (hP:∀ u,Pv i u->RelV x u) (Qf:V->Hp->Heap->Prop)
  (q:∀ T h'',H T=none->(∃ old,IsEnum h'' e it ((i + 1:Nat):Int) old)->Sd (i + 1) h''->Qf (.ref T) (upd H T (.tup [.int (i:Nat),x])) h'') :
  wpAny (model X.prog X.w) X.A (pyNext (.ref e)) (fun r s1=>∃ u,r=some u ∧
   wpAny (model X.prog X.w) X.A (letOwnedTupleGo (.Tuple elts k pos) (.ref e) u) (fun _ s2=>∃ y H',Inv X pins σ H' s2/\RelV y u/\Qf y H' s2.heap/\∀ b ∈ [e,it],H' b=none) E s1) E s:=by
 have W:=WalksT.enumerateD D e hei hef hif
 have lte:e < s.heap.objs.size:=by obtain ⟨old,q⟩:=he; exact Heap.lt_size q
 have lti:it < s.heap.objs.size:=by obtain ⟨o,q⟩:=D.live _ _ hst; exact Heap.lt_size q
 refine W.item i s _ E hi ⟨he,hst⟩ fun T vals h' tk hv hT hTu hM hk=>?_
 obtain ⟨t,u,hu,rfl⟩:=hv
 refine ⟨.ref T,rfl,?_⟩
 have hap:=W.apart i T h' hM
 refine W.go elts k pos i T { s with heap:=h',toks:=tk } _ E hM fun h'' hst'' hk''=>?_
 have nT:H T=none:=I.hok.fresh hT
 obtain ⟨oT,eT,cT,nn,dT⟩:=hTu
 have eT':=hk'' T oT hap eT
 have I':Inv X pins σ (upd H T (.tup [.int (i:Nat),x])) { s with heap:=h'',toks:=tk }:=turnLaid I hf (fun c o hc e=>hk'' c o hc (hk c o hc e)) hT
  ⟨by rw [sizeLine_eq]; simp,[.int i t,u],.cons ⟨t,rfl⟩ (.cons (hP u hu) .nil),oT,eT',cT,nn,dT⟩
 refine ⟨.ref T,_,I',rfl,q T h'' nT hst''.1 hst''.2,fun c hc=>?_⟩
 have hlt:c < s.heap.objs.size:=by
  rcases List.mem_cons.mp hc with e1 | hc
  ·rw [e1]; exact lte
  ·rw [List.mem_singleton.mp hc]; exact lti
 rw [upd_ne (Nat.ne_of_lt (Nat.lt_of_lt_of_le hlt hT))]
 exact (hf c hc).1
theorem enum_done {X:Cx} {pins:List (Addr × Obj)} {s:Shared} {σ:St} {H:Hp} {E:Value->Shared->Prop} {e it:Addr} {fp:List Addr} {n:Nat} {Pv:Nat->Value->Prop} {Sd:Nat->Heap->Prop} (I:Inv X pins σ H s) (D:Draws X.prog X.w X.A.in1 it fp n Pv Sd) (hei:e ≠ it) (hef:e ∉ fp) (hif:it ∈ fp)
  (hf:∀ b ∈ [e,it],FpOk X pins H b) (he:∃ old,IsEnum s.heap e it n old) (hst:Sd n s.heap):wpAny (model X.prog X.w) X.A (pyNext (.ref e)) (fun r s1=>r=none/\Inv X pins σ H s1) E s:=by
 have W:=WalksT.enumerateD D e hei hef hif
 refine W.done s _ E ⟨he,hst⟩ fun h' tk k=>⟨rfl,?_⟩
 have nit:∀ b u,H b=some u->b ∉ [e,it]:=fun b u e q=>by rw [(hf b q).1] at e; cases e
 refine I.step (g':=s.gens) (d':=s.drawn) (ch:=[e,it]) (fun b hb=>?_) (fun b o _ _ hc e _=>k b o hc e) (fun b o _ _ hc e _=>⟨o.slots,k b o hc e⟩) (fun b ob _ e n=>n)
  (fun b o hc e=>⟨o,k b o hc e⟩) (fun b xs e=>e) (fun b u xs e=>e) (fun b ps e=>⟨#[],by rw [e]; simp⟩) (fun m hm=>?_) (fun b u e=>?_) I.bare
 ·obtain ⟨_,q1,q2,q3,q4,q5⟩:=hf b hb
  exact ⟨q3,q1,q4,q5⟩
 ·obtain ⟨ob,es,ep,ho,r⟩:=hm
  exact ⟨ob,es,ep,k _ ob (fun z=>(hf _ z).2.1 rfl) ho,r⟩
 ·refine (I.hok b u e).stay (fun c v hc q=>k c v ?_ q) (fun c q=>q) fun c xs q=>q
  rcases hc with z | z
  ·rw [z]; exact nit b u e
  ·exact nit c _ z
theorem turn_enum (a e it:Addr) (hei:e ≠ it) (hae:a ≠ e) (hai:a ≠ it):Turn P w K (.Tuple elts k pos) (Ite K a) [e,it] e (fun i h=>(∃ old,IsEnum h e it (i:Nat) old)/\h.IsListIter it a i) where
 mem:=by simp
 obj:=fun i h st c hc=>by
  obtain ⟨⟨old,h1⟩,⟨o4,e4,c4,d4⟩⟩:=st
  rcases List.mem_cons.mp hc with rfl | hc
  ·exact ⟨_,h1,fun v z=>nomatch z⟩
  ·rw [List.mem_singleton.mp hc]; exact ⟨_,e4,fun v z=>by rw [d4] at z; cases z⟩
 keep:=fun i h h' st k=>by
  obtain ⟨⟨old,h1⟩,h2⟩:=st
  exact ⟨⟨old,k e (by simp) _ h1⟩,h2.at fun o e=>k it (by simp) o e⟩
 item:=by
  intro X hP hw hK hc i pins s σ H E I hf st hg
  subst hP hw hK
  obtain ⟨xs,x,hq,hx⟩:=hg
  obtain ⟨its,rv,p1,hz⟩:=I.list hq
  obtain ⟨u,hu,ru⟩:=rv.get hx
  have D:=Draws.list (prog:=X.prog) (w:=X.w) (A:=X.A.in1) (I.ok.hd hc) it a hai its.toArray
  refine (wpAny_mono (enum_item (Qf:=fun y H' h''=>(Ite X.K a).yld i H y H'/\((∃ old,IsEnum h'' e it ((i + 1:Nat):Int) old)/\h''.IsListIter it a (i + 1))) I D hei (by simp [hei,Ne.symm hae]) (by simp) hf (by simpa using (List.getElem?_eq_some_iff.mp hu).1) st.1 ⟨st.2,p1.isList⟩ x (fun v hv=>?_) fun T h'' nT g1 g2=>⟨⟨T,x,rfl,nT,rfl,fun zs hzs=>by rw [I.list_inj hzs hq]; exact hx⟩,g1,g2.1⟩) (fun r s1 ⟨u,e1,z⟩=>⟨u,e1,wpAny_mono z (fun _ s2 ⟨y,H',a1,a2,⟨a3,a4⟩,a5⟩=>⟨y,H',a1,a2,a3,a4,a5⟩) fun _ _ z=>z⟩) fun _ _ z=>z)
  have:its[i]?=some v:=by simpa using hv
  rw [hu] at this; cases this; exact ru
 done:=by
  intro X hP hw hK hc i pins s σ H E I hf st hg
  subst hP hw hK
  obtain ⟨xs,hq,hi⟩:=hg
  obtain ⟨its,rv,p1,hz⟩:=I.list hq
  have D:=Draws.list (prog:=X.prog) (w:=X.w) (A:=X.A.in1) (I.ok.hd hc) it a hai its.toArray
  have en:its.toArray.size=i:=by rw [hi,List.size_toArray,rv.length]
  exact enum_done I D hei (by simp [hei,Ne.symm hae]) (by simp) hf (by rw [en]; exact st.1) (by rw [en]; exact ⟨st.2,p1.isList⟩)
 self:=fun _ _ _ _ _ st h=>by
  obtain ⟨⟨old,h1⟩,_⟩:=st
  exact wpAny_pyIter_enum h1 h
theorem draws_str {A:Around} (hh:A.handled=none) (it:Addr) (x:Str) (t:Tok):Draws P w A it [it] x.cps.size (fun i v=>∃ c u,x.cps[i]?=some c/\v=.str ⟨#[c]⟩ u) (fun i h=>h.IsStrIter it (strIterType x) x t i):=by
 cases ha:x.cps.all (· < 128)
 ·have e:strIterType x="str_iterator":=by simp [strIterType,ha]
  rw [e]; exact Draws.strWide hh it x t
 ·have e:strIterType x="str_ascii_iterator":=by simp [strIterType,ha]
  rw [e]; exact Draws.strAscii hh it x t
theorem turn_enumS (z:Str) (t:Tok) (e it:Addr) (hei:e ≠ it):Turn P w K (.Tuple elts k pos) (Its z) [e,it] e (fun i h=>(∃ old,IsEnum h e it (i:Nat) old)/\h.IsStrIter it (strIterType z) z t i) where
 mem:=by simp
 obj:=fun i h st c hc=>by
  obtain ⟨⟨old,h1⟩,⟨o4,e4,c4,d4⟩⟩:=st
  rcases List.mem_cons.mp hc with rfl | hc
  ·exact ⟨_,h1,fun v z=>nomatch z⟩
  ·rw [List.mem_singleton.mp hc]; exact ⟨_,e4,fun v z=>by rw [d4] at z; cases z⟩
 keep:=fun i h h' st k=>by
  obtain ⟨⟨old,h1⟩,⟨o4,e4,r4⟩⟩:=st
  exact ⟨⟨old,k e (by simp) _ h1⟩,⟨o4,k it (by simp) _ e4,r4⟩⟩
 item:=by
  intro X hP hw hK hc i pins s σ H E I hf st hg
  subst hP hw hK
  have hg:i < z.cps.size:=hg
  have D:=draws_str (P:=X.prog) (w:=X.w) (A:=X.A.in1) (I.ok.hd hc) it z t
  have hx:z.cps[i]?=some z.cps[i]:=by simp [hg]
  refine (wpAny_mono (enum_item (Qf:=fun y H' h''=>(Its z).yld i H y H'/\((∃ old,IsEnum h'' e it ((i + 1:Nat):Int) old)/\h''.IsStrIter it (strIterType z) z t (i + 1))) I D hei (by simp [hei]) (by simp) hf hg st.1 st.2 (.str ⟨#[z.cps[i]]⟩) (fun v hv=>?_) fun T h'' nT g1 g2=>⟨⟨T,z.cps[i],rfl,nT,rfl,hx⟩,g1,g2⟩) (fun r s1 ⟨u,e1,z⟩=>⟨u,e1,wpAny_mono z (fun _ s2 ⟨y,H',a1,a2,⟨a3,a4⟩,a5⟩=>⟨y,H',a1,a2,a3,a4,a5⟩) fun _ _ z=>z⟩) fun _ _ z=>z)
  obtain ⟨c,u,hc,rfl⟩:=hv
  rw [hx] at hc; cases hc
  exact ⟨u,rfl⟩
 done:=by
  intro X hP hw hK hc i pins s σ H E I hf st hg
  subst hP hw hK
  have hg:i=z.cps.size:=hg
  subst hg
  exact enum_done I (draws_str (P:=X.prog) (w:=X.w) (A:=X.A.in1) (I.ok.hd hc) it z t) hei (by simp [hei]) (by simp) hf st.1 st.2
 self:=fun _ _ _ _ _ st h=>by
  obtain ⟨⟨old,h1⟩,_⟩:=st
  exact wpAny_pyIter_enum h1 h
end
section
variable {X:Cx} {G:Fc} {a:Expr} {p pos tpos:Pos} {elts:List Expr} {tk:Nat}
noncomputable def iEnT (K:PySem.W.Frag) (ta:TA):TI:=fun σ H Rr=>ta σ H fun vs H1=>(∃ a,vs=[.ref a]/\(∃ xs,SqL K H1 a xs)/\Rr (Ite K a) H1)\/∃ z,vs=[.str z]/\Rr (Its z) H1
theorem pi_enum {ta:TA} (hg:Gl X "enumerate") (hm:X.mg "enumerate"=none) (ha:PA X [a] ta) (hs:starEach [a] X.env=[(false,eval a X.env)]:=by rfl) :
  PI X (.Tuple elts tk tpos) (.Call (.Name "enumerate" p) [a] [] pos) (iEnT X.K ta):=by
 intro pins s σ H Rr I h
 refine Call_ (ld_blt I hg hm boot_enumerate (PyProof.Rows.callWith_type1 (thn (ha pos pins s σ H _ I h) fun us s1 ⟨vs,H1,I1,r1,q1⟩=>?_) (by rw [hs]; rfl) (by rfl)))
 have ge:∀ c ∈ [s1.heap.objs.size + 1,s1.heap.objs.size],s1.heap.objs.size<=c:=fun c hc=>by
  rcases List.mem_cons.mp hc with rfl | hc
  ·exact Nat.le_add_right _ _
  ·rw [List.mem_singleton.mp hc]; exact Nat.le_refl _
 rcases q1 with ⟨l,rfl,⟨xs,hx⟩,q⟩ | ⟨z,rfl,q⟩
 ·obtain ⟨u,rfl,ru⟩:=vals1 r1
  cases ru
  obtain ⟨its,rv,p1,hz⟩:=I1.list hx
  have hlt:l < s1.heap.objs.size:=by obtain ⟨o,e,_⟩:=p1.isList; exact Heap.lt_size e
  refine call_enumerate_list p1.isList fun h' he hit hsz hk=>?_
  refine wpAny_pyIter_enum he ?_
  exact ⟨_,[s1.heap.objs.size + 1,s1.heap.objs.size],_,_,H1,rfl,I1.kept (t':=s1.toks) hk,turn_enum l _ _ (Nat.succ_ne_self _) (Nat.ne_of_lt (Nat.lt_succ_of_lt hlt)) (Nat.ne_of_lt hlt),⟨⟨_,he⟩,hit⟩,fun c hc=>I1.fpOk (ge c hc) (I1.hok.fresh (ge c hc)),q⟩
 ·obtain ⟨u,rfl,ru⟩:=vals1 r1
  obtain ⟨t,rfl⟩:=ru
  refine call_enumerate_str fun h' he hit hsz hk=>?_
  refine wpAny_pyIter_enum he ?_
  exact ⟨_,[s1.heap.objs.size + 1,s1.heap.objs.size],_,_,H1,rfl,I1.kept (t':=s1.toks) hk,turn_enumS z t _ _ (Nat.succ_ne_self _),⟨⟨_,he⟩,hit⟩,fun c hc=>I1.fpOk (ge c hc) (I1.hok.fresh (ge c hc)),q⟩
noncomputable def enumD (ds:List D):List D:=ds.zipIdx.map fun p=>.tup [.int (p.2:Nat),p.1]
noncomputable def enumS (z:Str):List D:=z.cps.toList.zipIdx.map fun p=>.tup [.int (p.2:Nat),.str ⟨#[p.1]⟩]
noncomputable def iEn (m:EV):Ev->R (List D):=fun E=>m E >>= fun d=>match d with
 | .lst ds=>.ok (enumD ds)
 | .str z=>.ok (enumS z)
 | _=>.no
theorem si_enum {m:EV} (hg:Gl X "enumerate") (hm:X.mg "enumerate"=none) (ha:SF X G a m) (hs:starEach [a] X.env=[(false,eval a X.env)]:=by rfl) :
  SI X G (.Tuple elts tk tpos) (.Call (.Name "enumerate" p) [a] [] pos) (iEn m) :=
 (pi_enum hg hm (pa_cons ha pa_nil hs) hs).imp fun σ H Q z0=>z0.elim fun E z0=>z0.elim fun hr f=>⟨E,hr,(Fin.bind f).mono fun d p v H1 s1 z=>by
  cases d with
  | lst xs =>
   unfold Rp at z
   obtain ⟨l1,vs,rfl,no1,h1,r1⟩:=z
   refine .inl ⟨l1,rfl,⟨vs,SqL.of h1⟩,p _ H1 s1 fun G' E' σ' H' le r'=>?_⟩
   have h1':=(locked le r' _ _ no1 h1).1
   refine ⟨⟨vs,SqL.of h1',by unfold enumD; rw [List.length_map,List.length_zipIdx,r1.length]⟩,fun i d hd=>?_⟩
   have hd':∃ dx,xs[i]?=some dx/\d=.tup [.int (i:Nat),dx]:=by
    unfold enumD at hd
    rw [List.getElem?_map,List.getElem?_zipIdx] at hd
    cases e1:xs[i]? with
    | none=>rw [e1] at hd; simp at hd
    | some dx=>rw [e1] at hd; simp at hd; exact ⟨dx,rfl,hd.symm⟩
   obtain ⟨dx,e1,rfl⟩:=hd'
   obtain ⟨vx,hvx,px⟩:=r1.get e1
   refine ⟨⟨vs,vx,SqL.of h1',hvx⟩,?_⟩
   rintro x H'' ⟨T,ux,ex,nT,eH,q1⟩
   subst ex eH
   have a1:=q1 vs (SqL.of h1')
   rw [hvx] at a1; cases a1
   refine ⟨same_upd nT,?_⟩
   unfold Rp
   refine ⟨T,[.int (i:Nat),vx],rfl,r'.fresh nT,upd_same,Rps.cons (by unfold Rp; rfl) (Rps.cons ?_ Rps.nil)⟩
   exact (px.move (locked le r')).mono (same_upd nT) fun _ q=>q
  | str z' =>
   unfold Rp at z
   refine .inr ⟨z',by rw [z],p _ H1 s1 fun G' E' σ' H' le r'=>?_⟩
   refine ⟨by show (enumS z').length=z'.cps.size; unfold enumS; simp,fun i d hd=>?_⟩
   have hd':∃ c,z'.cps[i]?=some c/\d=.tup [.int (i:Nat),.str ⟨#[c]⟩]:=by
    unfold enumS at hd
    rw [List.getElem?_map,List.getElem?_zipIdx,Array.getElem?_toList] at hd
    cases e1:z'.cps[i]? with
    | none=>rw [e1] at hd; simp at hd
    | some c=>rw [e1] at hd; simp at hd; exact ⟨c,rfl,hd.symm⟩
   obtain ⟨c,e1,rfl⟩:=hd'
   refine ⟨(Array.getElem?_eq_some_iff.mp e1).1,?_⟩
   rintro x H'' ⟨T,c',ex,nT,eH,q1⟩
   subst ex eH
   rw [e1] at q1; cases q1
   refine ⟨same_upd nT,?_⟩
   unfold Rp
   exact ⟨T,[.int (i:Nat),.str ⟨#[c]⟩],rfl,r'.fresh nT,upd_same,Rps.cons (by unfold Rp; rfl) (Rps.cons (by unfold Rp; rfl) Rps.nil)⟩
  | _=>exact p.elim⟩
end
end M

set_option Elab.async false
set_option linter.all false
set_option maxRecDepth 100000
namespace M
open PySem PySem.W PySem.Spec PyProof.Rows L2
noncomputable def dStrs:List D->Option (List Str)
 | []=>some []
 | .str z :: r=>(dStrs r).map fun zs=>z :: zs
 | _ :: _=>none
theorem strs_some:∀ {ds:List D} {zs:List Str},dStrs ds=some zs->ds=zs.map D.str
 | [],_,e=>by cases e; rfl
 | .str z :: r,_,e=>by
  simp only [dStrs,Option.map_eq_some_iff] at e
  obtain ⟨zs,e1,rfl⟩:=e
  rw [strs_some e1]; rfl
 | .non :: _,_,e=>by cases e
 | .bl _ :: _,_,e=>by cases e
 | .int _ :: _,_,e=>by cases e
 | .tup _ :: _,_,e=>by cases e
 | .lst _ :: _,_,e=>by cases e
 | .dic _ :: _,_,e=>by cases e
 | .scr _ :: _,_,e=>by cases e
theorem rps_strs {K:PySem.W.Frag} {H:Hp} {O:Addr->Prop}:∀ {zs:List Str} {vs:List V},Rps K H O (zs.map D.str) vs->vs=zs.map V.str
 | [],_,h=>by unfold Rps at h; exact h
 | z :: zs,_,h=>by
  rw [List.map_cons] at h
  unfold Rps at h
  obtain ⟨v,r,rfl,p,q⟩:=h
  unfold Rp at p
  rw [p,rps_strs q]; rfl
theorem rps_of_strs {K:PySem.W.Frag} {H:Hp} {O:Addr->Prop}:∀ (zs:List Str),Rps K H O (zs.map D.str) (zs.map V.str)
 | []=>Rps.nil
 | z :: zs=>Rps.cons (by unfold Rp; rfl) (rps_of_strs zs)
theorem strsAre_vals:∀ {zs:List Str} {us:List Value},Vals (zs.map V.str) us->StrsAre us zs
 | [],_,.nil=>.nil
 | z :: zs,_,.cons ⟨t,e⟩ r=>by subst e; exact .cons z t (strsAre_vals r)
theorem vals_strs:∀ (l:List (Str × Tok)),Vals ((l.map (·.1)).map V.str) (strValues l)
 | []=>.nil
 | (z,t) :: l=>.cons ⟨t,rfl⟩ (vals_strs l)
section
variable {X:Cx}
noncomputable def rJoin (K:PySem.W.Frag):V->List V->Hp->VK->Prop:=fun x xs H Q=>∃ sep p ys,x=.str sep/\xs=[.ref p]/\SqL K H p (ys.map V.str)/\sep.length<=16/\(ys.map (·.length)).sum + ys.length<=1048576/\Q (.str (Txt.join sep ys)) H
theorem mt_join:MtR X "str.join" (rJoin X.K):=by
 rintro pins s σ H x xs v us Q I rx rv ⟨sep,p,ys,rfl,rfl,hp,h1,h2,q⟩
 obtain ⟨t,rfl⟩:=rx
 obtain ⟨u,rfl,ru⟩:=vals1 rv
 cases ru
 obtain ⟨its,rv,pl,hz⟩:=I.list hp
 exact join_listW pl.isList (strsAre_vals rv) h1 h2 fun t' k=>⟨.str _,H,I.tok _,⟨_,rfl⟩,q⟩
noncomputable def rSplit:V->List V->Hp->VK->Prop:=fun x xs H Q=>∃ z y,x=.str z/\xs=[.str y]/\(y.length == 0)=false/\z.length + 2<=sizeLine/\(Txt.split z y).length<=sizeLine/\∀ l,H l=none->Q (.ref l) (upd H l (.lst ((Txt.split z y).map V.str)))
theorem mt_split:MtR X "str.split" rSplit:=by
 rintro pins s σ H x xs v us Q I rx rv ⟨z,y,rfl,rfl,hy,hz,hlen,q⟩
 obtain ⟨t,rfl⟩:=rx
 obtain ⟨u,rfl,t',rfl⟩:=vals1 rv
 obtain ⟨m,F⟩:=I.fr
 have N:News X.base X.env.locals s.heap (allNews X.base s.heap X.env.locals):=news_all
 refine splitN1A F N hy (fun l h' k e a1 a2 hl F' N'=>?_) hz
 have nD:s.heap.get? s.heap.objs.size=none:=Heap.get?_none_of_le (Nat.le_refl _)
 have keepL:∀ b o,b ≠ X.env.locals->s.heap.get? b=some o->h'.get? b=some o:=fun b o hb e=>by
  cases g:X.base.get? b with
  | some o'=>have:=I.bk b o' g; rw [e] at this; cases this; exact F'.keep b _ g
  | none=>exact (N' (b,o) (List.mem_cons_of_mem _ (mem_allNews hb g e))).1
 have hn:=(N' (s.heap.objs.size,{ cls:=.type "list",data:=.seq (strValues l).toArray }) List.mem_cons_self).1
 have len:l.length<=sizeLine:=by
  have h1:=congrArg List.length e
  rw [List.length_map] at h1
  rw [h1]; exact hlen
 refine ⟨.ref s.heap.objs.size,_,ledgerLaid (s':={ s with heap:=h',toks:=k }) (o:=.lst ((Txt.split z y).map V.str)) I F F' keepL nD ⟨by rw [<-e,List.length_map,List.length_map]; exact len,strValues l,_,by rw [<-e]; exact vals_strs l,hn⟩ rfl I.bare,rfl,q _ (I.hok.fresh (Nat.le_refl _))⟩
end
section
variable {X:Cx} {G:Fc} {o e:Expr} {mo m:EV} {apos cpos:Pos}
noncomputable def fJoin:D->D->Option D
 | .str sep,.lst ds=>(dStrs ds).bind fun ys=>if sep.length<=16/\(ys.map (·.length)).sum + ys.length<=1048576 then some (.str (Txt.join sep ys)) else none
 | _,_=>none
noncomputable def eJoin (sep:Str) (m:EV):EV:=fun E=>m E >>= fun y=>ofO (fJoin (.str sep) y)
theorem sf_join {sep:Str} {j:Nat} {kpos:Pos} (he:SE X G e m) (hbase:attributeBase (.Constant (.str sep) j kpos) "join" X.env (eval (.Constant (.str sep) j kpos) X.env)=eval (.Constant (.str sep) j kpos) X.env:=by rfl)
  (hfew:((backTo cpos (starEach [e] X.env)).all (fun x=>!x.1) && (backToKw cpos (keywordEach [] X.env)).all (fun x=>x.1.isSome) && decide ([e].length + ([]:List Keyword).length + (if ([]:List Keyword).isEmpty then 0 else 1) < 30))=true:=by rfl)
  (hline:(apos.endLine == cpos.line)=true:=by rfl) (hs:starEach [e] X.env=(false,eval e X.env) :: starEach [] X.env:=by rfl) (hplain:(backTo cpos (starEach [] X.env)).any (·.1)=false:=by rfl) :
  SF X G (.Call (.Attribute (.Constant (.str sep) j kpos) "join" apos) [e] [] cpos) (eJoin sep m) :=
 (pe_bm PySem.F.plainAttrs_str PySem.F.slot_str_join PySem.F.type_str_join mt_join pe_str (pa_cons he pa_nil hs) hbase hfew hline hs hplain).imp fun σ H Q z0=>z0.elim fun E z0=>z0.elim fun hr h=>⟨rfl,E,hr,(Fin.bind h).mono fun dy fy w H2 s2 p2=>by
  obtain ⟨d,e,q⟩:=Fin.of fy
  cases dy with
  | lst ds =>
   simp only [fJoin,Option.bind_eq_some_iff] at e
   obtain ⟨ys,e1,e2⟩:=e
   split at e2
   ·rename_i hc
    cases e2
    obtain ⟨a,vs,rfl,h1,r1⟩:=p2.lst
    rw [strs_some e1] at r1
    have:=rps_strs r1
    subst this
    exact ⟨sep,a,ys,rfl,rfl,SqL.of h1,hc.1,hc.2,q _ H2 s2 (by unfold Rp; rfl)⟩
   ·cases e2
  | _=>cases e⟩
noncomputable def eSplit (mo:EV) (y:Str):EV:=fun E=>mo E >>= fun x=>match x with
 | .str z=>if (y.length == 0)=false/\z.length<=1000000/\(Txt.split z y).length<=1000000 then .ok (.lst ((Txt.split z y).map D.str)) else .no
 | _=>.no
theorem sn_split {y:Str} {j:Nat} {kpos:Pos} (ho:SE X G o mo) (hbase:attributeBase o "split" X.env (eval o X.env)=eval o X.env:=by rfl)
  (hfew:((backTo cpos (starEach [.Constant (.str y) j kpos] X.env)).all (fun x=>!x.1) && (backToKw cpos (keywordEach [] X.env)).all (fun x=>x.1.isSome) && decide ([Expr.Constant (.str y) j kpos].length + ([]:List Keyword).length + (if ([]:List Keyword).isEmpty then 0 else 1) < 30))=true:=by rfl)
  (hline:(apos.endLine == cpos.line)=true:=by rfl) (hs:starEach [.Constant (.str y) j kpos] X.env=(false,eval (.Constant (.str y) j kpos) X.env) :: starEach [] X.env:=by rfl) (hplain:(backTo cpos (starEach [] X.env)).any (·.1)=false:=by rfl) :
  SN X G (.Call (.Attribute o "split" apos) [.Constant (.str y) j kpos] [] cpos) (eSplit mo y) :=
 (pe_bm PySem.F.plainAttrs_str PySem.F.slot_str_split PySem.F.type_str_split mt_split ho (pa_cons pe_str pa_nil hs) hbase hfew hline hs hplain).imp fun σ H Q z0=>z0.elim fun E z0=>z0.elim fun hr h=>⟨E,hr,(Fin.bind h).mono fun dx fx v H1 s1 p1=>by
  cases dx with
  | str z =>
   dsimp only at fx
   split at fx
   ·rename_i hc
    rw [p1.str]
    refine ⟨rfl,z,y,rfl,rfl,hc.1,by rw [sizeLine_eq]; omega,by rw [sizeLine_eq]; omega,fun l hl=>fx l _ (s1.trans (same_upd hl)) ?_ ⟨_,upd_same,rps_of_strs _⟩⟩
    cases q:H l with
    | none=>rfl
    | some u=>rw [s1 _ _ q] at hl; cases hl
   ·exact fx.elim
  | _=>exact fx.elim⟩
end
end M

set_option Elab.async false
set_option linter.all false
set_option maxRecDepth 100000
namespace M
open PySem PySem.Spec PyProof.Rows L2
section
variable {prog:Program} {w:World} {A:Around} {E:Value->Shared->Prop} {s:Shared}
theorem next_tup {it t:Addr} {i:Nat} {items:Array Value} {x:Value} {Q:Value->Shared->Prop} (hit:s.heap.IsTupleIter it t i) (ht:s.heap.IsTuple t items) (hx:items[i]?=some x)
  (hQ:∀ h',h'.IsTupleIter it t (i + 1)->Heap.SameBut it s.heap h'->Q x { s with heap:=h' }):wpAny (model prog w) A (Builtin.SmallTypes.nextOf (.ref it)) Q E s:=by
 obtain ⟨o,ho,hc,hd⟩:=id hit
 obtain ⟨ol,hol,_,nl,hdl⟩:=ht
 unfold Builtin.SmallTypes.nextOf
 refine wpAny_bind (wpAny_callSpecial?_slot (name:=Str.ofString "__next__") hit.typeIs F.slot_tuple_iterator_next (wpAny_call_entry F.slot_tuple_iterator_next hit.typeIs F.entry_tuple_iterator_next ?_ (F.args_tuple_iterator_next_1 _)))
 show wpAny _ _ (field (.ref it) 0 >>= _) _ _ s
 refine wpAny_bind (wpAny_field ho hd (x:=.ref t) rfl ?_)
 show wpAny _ _ (if (Value.ref t == Value.none)=true then _ else _) _ _ s
 rw [if_neg (show ¬ ((Value.ref t == Value.none)=true) from Bool.false_ne_true)]
 show wpAny _ _ (field (.ref it) 1 >>= _) _ _ s
 refine wpAny_bind (wpAny_field ho hd (x:=.int i 0) rfl ?_)
 show wpAny _ _ (seqItems? (.ref t) >>= _) _ _ s
 refine wpAny_bind (wpAny_seqItems hol hdl ?_)
 simp only [Int.toNat_natCast,hx]
 refine wpAny_bind (wpAny_setField ho hd (by simp) (wpAny_pure ⟨x,rfl,wpAny_pure (hQ _ ?_ (Heap.SameBut.update ..))⟩))
 exact ⟨_,Heap.get?_update_self _ ho (Obj.isFreed_of_fields (Obj.data_mapFields hd _)),(Obj.cls_mapFields ..).trans hc,by rw [Obj.data_mapFields hd]; simp [rawInt]⟩
theorem next_tup_end {it t:Addr} {i:Nat} {items:Array Value} {Q:Value->Shared->Prop} (hh:A.handled=none) (hit:s.heap.IsTupleIter it t i) (ht:s.heap.IsTuple t items) (hx:items[i]?=none)
  (hE:∀ h' e,Heap.ExtBut it s.heap h'->(∃ o,h'.get? e=some o/\o.cls=.type "StopIteration")->E (.ref e) { s with heap:=h' }):wpAny (model prog w) A (Builtin.SmallTypes.nextOf (.ref it)) Q E s:=by
 obtain ⟨o,ho,hc,hd⟩:=id hit
 obtain ⟨ol,hol,_,nl,hdl⟩:=ht
 unfold Builtin.SmallTypes.nextOf
 refine wpAny_bind (wpAny_callSpecial?_slot (name:=Str.ofString "__next__") hit.typeIs F.slot_tuple_iterator_next (wpAny_call_entry F.slot_tuple_iterator_next hit.typeIs F.entry_tuple_iterator_next ?_ (F.args_tuple_iterator_next_1 _)))
 show wpAny _ _ (field (.ref it) 0 >>= _) _ _ s
 refine wpAny_bind (wpAny_field ho hd (x:=.ref t) rfl ?_)
 show wpAny _ _ (if (Value.ref t == Value.none)=true then _ else _) _ _ s
 rw [if_neg (show ¬ ((Value.ref t == Value.none)=true) from Bool.false_ne_true)]
 show wpAny _ _ (field (.ref it) 1 >>= _) _ _ s
 refine wpAny_bind (wpAny_field ho hd (x:=.int i 0) rfl ?_)
 show wpAny _ _ (seqItems? (.ref t) >>= _) _ _ s
 refine wpAny_bind (wpAny_seqItems hol hdl ?_)
 simp only [Int.toNat_natCast,hx]
 refine wpAny_bind (wpAny_rule (wpAny_bind (wpAny_setField ho hd (by simp) ?_)))
 show wpAny _ _ (newExc (.type "StopIteration") [] >>= _) _ _ _
 refine wpAny_bind ?_
 simp only [newExc,newTuple]
 refine wpAny_bind (wpAny_newObj_type ?_ (by size_fits))
 refine wpAny_bind (m:=firstArgMember _ _) (wpAny_of_eq (a:=Value.none) (by first | rfl | (simp only [firstArgMember]; rfl)) ?_)
 refine wpAny_newObj_type ?_ (by size_fits)
 simp only [raiseNew]
 refine wpAny_bind (wpAny_handled ?_)
 first | rw [show A.in1.handled=none from hh] | rw [hh]
 refine wpAny_bind (wpAny_pure (wpAny_throw ?_))
 exact hE _ _ (((Heap.SameBut.update ..).extBut.push _).push _) ⟨_,Heap.get?_push_size _ rfl,rfl⟩
theorem draws_tup (hh:A.handled=none) (it l:Addr) (hne:l ≠ it) (items:Array Value):Draws prog w A it [it,l] items.size (fun i v=>items[i]?=some v) (fun i h=>h.IsTupleIter it l i/\h.IsTuple l items) where
 live:=fun _ _ st=>let ⟨o,ho,_⟩:=st.1; ⟨o,ho⟩
 frame:=fun _ _ _ st hk=>by
  obtain ⟨⟨o,ho,r⟩,⟨o',ho',r'⟩⟩:=st
  exact ⟨⟨o,hk it (by simp) o ho,r⟩,⟨o',hk l (by simp) o' ho',r'⟩⟩
 item:=fun i s Q E hi st hQ=>next_tup st.1 st.2 (x:=items[i]) (by simp [hi]) fun h' hit' hs'=>hQ _ h' s.toks (by simp [hi]) ⟨hit',st.2.extBut hs'.extBut hne⟩ hs'
 done:=fun s Q E st hE=>next_tup_end hh st.1 st.2 (by simp) hE
structure ZApart (z TI TO i1 i2:Addr) (f1 f2:List Addr):Prop where
 TIz:TI ≠ z
 TOz:TO ≠ z
 i1z:i1 ≠ z
 i2z:i2 ≠ z
 TITO:TI ≠ TO
 TIi1:TI ≠ i1
 TIi2:TI ≠ i2
 TOi1:TO ≠ i1
 TOi2:TO ≠ i2
 i12:i1 ≠ i2
 z1:∀ b ∈ f1,b ≠ z/\b ≠ TO/\b ≠ i2
 z2:∀ b ∈ f2,b ≠ z/\b ≠ TO/\b ≠ i1
variable {z TI TO i1 i2:Addr} {f1 f2:List Addr} {n1 n2 k1 k2:Nat} {P1 P2:Nat->Value->Prop} {S1 S2:Nat->Heap->Prop} {a b:Value}
theorem zip_item {Q:Value->Shared->Prop} (D:ZApart z TI TO i1 i2 f1 f2) (D1:Draws prog w A i1 f1 n1 P1 S1) (D2:Draws prog w A i2 f2 n2 P2 S2) (hz:IsZip s.heap z TI TO .none) (hTI:IsPair s.heap TI (.ref i1) (.ref i2)) (hTO:IsPair s.heap TO a b)
  (h1:S1 k1 s.heap) (h2:S2 k2 s.heap) (l1:k1 < n1) (l2:k2 < n2)
  (hQ:∀ x y h' tk,P1 k1 x->P2 k2 y->IsZip h' z TI TO (rawInt s.heap.objs.size)->IsPair h' TO x y->S1 (k1 + 1) h'->S2 (k2 + 1) h'->IsPair h' s.heap.objs.size x y->h'.objs.size=s.heap.objs.size + 1 →
   (∀ c o,c ≠ z->c ≠ TO->c ≠ i1->c ≠ i2->s.heap.get? c=some o->h'.get? c=some o)->Q (.ref s.heap.objs.size) { s with heap:=h',toks:=tk }) :
  wpAny (model prog w) A (Builtin.«zip.__next__» ⟨[.ref z],[]⟩) (fun fin s'=>∃ v,fin=.done (.ret v)/\Q v s') E s:=by
 show wpAny _ _ (field (.ref z) 2 >>= _) _ _ _
 refine wpAny_bind (wpAny_field hz rfl (x:=.bool false) rfl ?_)
 show wpAny _ _ (field (.ref z) 3 >>= _) _ _ _
 refine wpAny_bind (wpAny_field hz rfl (x:=.ref TI) rfl ?_)
 refine wpAny_bind (wpAny_seqItems hTI rfl ?_)
 show wpAny _ _ (Builtin.SmallTypes.ownedTupleIsFree (.ref z) >>= _) _ _ _
 refine wpAny_bind ?_
 unfold Builtin.SmallTypes.ownedTupleIsFree
 refine wpAny_bind (wpAny_field hz rfl (x:=.none) rfl (wpAny_pure ?_))
 simp only [if_true]
 refine wpAny_bind (wpAny_rule ?_)
 refine wpAny_bind (wpAny_field hz rfl (x:=.ref TO) rfl ?_)
 refine wpAny_bind (wpAny_setField_rec hz (by simp) fun h₁ hz₁ hs₁=>?_)
 replace hz₁:IsZip h₁ z TI TO .ellipsis:=hz₁
 refine wpAny_bind ?_
 simp only [List.zipIdx_cons,List.zipIdx_nil,List.forIn_cons,List.forIn_nil]
 refine wpAny_bind (wpAny_bind (wpAny_onRaise ?_))
 show wpAny _ _ (Builtin.SmallTypes.nextOf (.ref i1) >>= _) _ _ _
 refine wpAny_bind (D1.item k1 _ _ _ l1 (D1.frame _ _ _ h1 fun c hc o e=>hs₁.extBut _ _ (D.z1 c hc).1 e) fun x h₂ tk₂ hx h1₂ hs₂=>wpAny_pure ?_)
 have hTO₂:IsPair h₂ TO a b:=hs₂.extBut _ _ D.TOi1 (hs₁.extBut _ _ D.TOz hTO)
 refine wpAny_bind (wpAny_seqItems hTO₂ rfl ?_)
 refine wpAny_bind (wpAny_updateSeq_pair hTO₂ fun h₃ hTO₃ hs₃=>?_)
 replace hTO₃:IsPair h₃ TO x b:=hTO₃
 refine wpAny_bind (wpAny_letGo (wpAny_pure ?_))
 refine wpAny_bind (wpAny_bind (wpAny_onRaise ?_))
 show wpAny _ _ (Builtin.SmallTypes.nextOf (.ref i2) >>= _) _ _ _
 refine wpAny_bind (D2.item k2 _ _ _ l2 (D2.frame _ _ _ h2 fun c hc o e=>hs₃.extBut _ _ (D.z2 c hc).2.1 (hs₂.extBut _ _ (D.z2 c hc).2.2 (hs₁.extBut _ _ (D.z2 c hc).1 e))) fun y h₄ tk₄ hy h2₄ hs₄=>wpAny_pure ?_)
 have hTO₄:IsPair h₄ TO x b:=hs₄.extBut _ _ D.TOi2 hTO₃
 refine wpAny_bind (wpAny_seqItems hTO₄ rfl ?_)
 refine wpAny_bind (wpAny_updateSeq_pair hTO₄ fun h₅ hTO₅ hs₅=>?_)
 replace hTO₅:IsPair h₅ TO x y:=hTO₅
 refine wpAny_bind (wpAny_letGo (wpAny_pure (wpAny_pure ?_)))
 refine wpAny_bind (wpAny_seqItems hTO₅ rfl ?_)
 refine wpAny_bind (wpAny_newTuple ?_)
 have hsz:h₅.objs.size=s.heap.objs.size:=by rw [hs₅.1,hs₄.1,hs₃.1,hs₂.1,hs₁.1]
 have hz₅:IsZip h₅ z TI TO .ellipsis:=hs₅.extBut _ _ D.TOz.symm (hs₄.extBut _ _ D.i2z.symm (hs₃.extBut _ _ D.TOz.symm (hs₂.extBut _ _ D.i1z.symm hz₁)))
 have hk₅:∀ c o,c ≠ z->c ≠ TO->c ≠ i1->c ≠ i2->s.heap.get? c=some o->h₅.get? c=some o:=fun c o c1 c2 c3 c4 e =>
  hs₅.extBut _ _ c2 (hs₄.extBut _ _ c4 (hs₃.extBut _ _ c2 (hs₂.extBut _ _ c3 (hs₁.extBut _ _ c1 e))))
 have h1₅:S1 (k1 + 1) h₅:=D1.frame _ _ _ h1₂ fun c hc o e=>hs₅.extBut _ _ (D.z1 c hc).2.1 (hs₄.extBut _ _ (D.z1 c hc).2.2 (hs₃.extBut _ _ (D.z1 c hc).2.1 e))
 have h2₅:S2 (k2 + 1) h₅:=D2.frame _ _ _ h2₄ fun c hc o e=>hs₅.extBut _ _ (D.z2 c hc).2.1 e
 have hzlt:z < h₅.objs.size:=Heap.lt_size hz₅
 show wpAny _ _ (Builtin.SmallTypes.ownedTupleHandOut (.ref z) (.ref h₅.objs.size) >>= _) _ _ _
 refine wpAny_bind ?_
 unfold Builtin.SmallTypes.ownedTupleHandOut
 have hz₆:IsZip (h₅.push { cls:=.type "tuple",data:=.seq #[x,y] }) z TI TO .ellipsis:=Heap.get?_push_of_some _ hz₅
 refine wpAny_bind (wpAny_setField_rec hz₆ (by simp) fun h₇ hz₇ hs₇=>?_)
 replace hz₇:IsZip h₇ z TI TO (rawInt h₅.objs.size):=hz₇
 refine wpAny_setField_rec hz₇ (by simp) fun h₈ hz₈ hs₈=>?_
 replace hz₈:IsZip h₈ z TI TO (rawInt h₅.objs.size):=hz₈
 have up:∀ c o,c ≠ z->h₅.get? c=some o->h₈.get? c=some o:=fun c o c1 e=>hs₈.extBut _ _ c1 (hs₇.extBut _ _ c1 (Heap.get?_push_of_some _ e))
 have hT₈:IsPair h₈ h₅.objs.size x y:=hs₈.extBut _ _ (Nat.ne_of_gt hzlt) (hs₇.extBut _ _ (Nat.ne_of_gt hzlt) (Heap.get?_push_size _ rfl))
 have hz8:h₈.objs.size=h₅.objs.size + 1:=by rw [hs₈.1,hs₇.1,Heap.size_push]
 rw [hsz] at hz₈ hT₈ hz8
 refine wpAny_pure ⟨_,rfl,?_⟩
 show Q (.ref h₅.objs.size) _
 rw [hsz]
 exact hQ x y h₈ _ hx hy hz₈ (up _ _ D.TOz hTO₅) (D1.frame _ _ _ h1₅ fun c hc o e=>up c o (D.z1 c hc).1 e) (D2.frame _ _ _ h2₅ fun c hc o e=>up c o (D.z2 c hc).1 e) hT₈ hz8 fun c o c1 c2 c3 c4 e=>up c o c1 (hk₅ c o c1 c2 c3 c4 e)
theorem zip_end {Q:PySem.Fin->Shared->Prop} (D:ZApart z TI TO i1 i2 f1 f2) (D1:Draws prog w A i1 f1 n1 P1 S1) (D2:Draws prog w A i2 f2 n2 P2 S2) (hz:IsZip s.heap z TI TO .none) (hTI:IsPair s.heap TI (.ref i1) (.ref i2)) (hTO:IsPair s.heap TO a b)
  (h1:S1 k1 s.heap) (h2:S2 k2 s.heap) (hend:k1=n1\/(k1 < n1/\k2=n2))
  (hE:∀ h' tk e,(∀ c o,c ≠ z->c ≠ TO->c ≠ i1->c ≠ i2->s.heap.get? c=some o->h'.get? c=some o)->(∃ o,h'.get? e=some o/\o.cls=.type "StopIteration")->E (.ref e) { s with heap:=h',toks:=tk }) :
  wpAny (model prog w) A (Builtin.«zip.__next__» ⟨[.ref z],[]⟩) Q E s:=by
 show wpAny _ _ (field (.ref z) 2 >>= _) _ _ _
 refine wpAny_bind (wpAny_field hz rfl (x:=.bool false) rfl ?_)
 show wpAny _ _ (field (.ref z) 3 >>= _) _ _ _
 refine wpAny_bind (wpAny_field hz rfl (x:=.ref TI) rfl ?_)
 refine wpAny_bind (wpAny_seqItems hTI rfl ?_)
 show wpAny _ _ (Builtin.SmallTypes.ownedTupleIsFree (.ref z) >>= _) _ _ _
 refine wpAny_bind ?_
 unfold Builtin.SmallTypes.ownedTupleIsFree
 refine wpAny_bind (wpAny_field hz rfl (x:=.none) rfl (wpAny_pure ?_))
 simp only [if_true]
 refine wpAny_bind (wpAny_rule ?_)
 refine wpAny_bind (wpAny_field hz rfl (x:=.ref TO) rfl ?_)
 refine wpAny_bind (wpAny_setField_rec hz (by simp) fun h₁ hz₁ hs₁=>?_)
 replace hz₁:IsZip h₁ z TI TO .ellipsis:=hz₁
 refine wpAny_bind ?_
 simp only [List.zipIdx_cons,List.zipIdx_nil,List.forIn_cons,List.forIn_nil]
 refine wpAny_bind (wpAny_bind (wpAny_onRaise ?_))
 show wpAny _ _ (Builtin.SmallTypes.nextOf (.ref i1) >>= _) _ _ _
 have h1₁:S1 k1 h₁:=D1.frame _ _ _ h1 fun c hc o e=>hs₁.extBut _ _ (D.z1 c hc).1 e
 rcases hend with rfl | ⟨l1,rfl⟩
 ·refine wpAny_bind (D1.done _ _ _ h1₁ fun h₂ e hs₂ he=>?_)
  obtain ⟨oe,hoe,hce⟩:=he
  have hz₂:IsZip h₂ z TI TO .ellipsis:=hs₂ _ _ D.i1z.symm hz₁
  have hez:e ≠ z:=fun x=>by subst x; rw [hz₂] at hoe; cases hoe; simp at hce
  refine wpAny_setField_rec hz₂ (by simp) fun h₃ _ hs₃=>hE h₃ _ e (fun c o c1 _ c3 _ x=>hs₃.extBut _ _ c1 (hs₂ _ _ c3 (hs₁.extBut _ _ c1 x))) ⟨oe,hs₃.extBut _ _ hez hoe,hce⟩
 ·refine wpAny_bind (D1.item k1 _ _ _ l1 h1₁ fun x h₂ tk₂ hx h1₂ hs₂=>wpAny_pure ?_)
  have hTO₂:IsPair h₂ TO a b:=hs₂.extBut _ _ D.TOi1 (hs₁.extBut _ _ D.TOz hTO)
  refine wpAny_bind (wpAny_seqItems hTO₂ rfl ?_)
  refine wpAny_bind (wpAny_updateSeq_pair hTO₂ fun h₃ hTO₃ hs₃=>?_)
  refine wpAny_bind (wpAny_letGo (wpAny_pure ?_))
  refine wpAny_bind (wpAny_bind (wpAny_onRaise ?_))
  show wpAny _ _ (Builtin.SmallTypes.nextOf (.ref i2) >>= _) _ _ _
  refine wpAny_bind (D2.done _ _ _ (D2.frame _ _ _ h2 fun c hc o e=>hs₃.extBut _ _ (D.z2 c hc).2.1 (hs₂.extBut _ _ (D.z2 c hc).2.2 (hs₁.extBut _ _ (D.z2 c hc).1 e))) fun h₄ e hs₄ he=>?_)
  obtain ⟨oe,hoe,hce⟩:=he
  have hz₄:IsZip h₄ z TI TO .ellipsis:=hs₄ _ _ D.i2z.symm (hs₃.extBut _ _ D.TOz.symm (hs₂.extBut _ _ D.i1z.symm hz₁))
  have hez:e ≠ z:=fun x=>by subst x; rw [hz₄] at hoe; cases hoe; simp at hce
  refine wpAny_setField_rec hz₄ (by simp) fun h₅ _ hs₅=>hE h₅ _ e (fun c o c1 c2 c3 c4 x=>hs₅.extBut _ _ c1 (hs₄ _ _ c4 (hs₃.extBut _ _ c2 (hs₂.extBut _ _ c3 (hs₁.extBut _ _ c1 x))))) ⟨oe,hs₅.extBut _ _ hez hoe,hce⟩
end
end M

set_option Elab.async false
set_option linter.all false
set_option maxRecDepth 100000
namespace M
open PySem PySem.Spec PyProof.Rows L2
section
variable {prog:Program} {w:World} {A:Around} {E:Value->Shared->Prop} {s:Shared} {z TI TO i1 i2:Addr} {f1 f2:List Addr} {n1 n2 k1 k2:Nat} {P1 P2:Nat->Value->Prop} {S1 S2:Nat->Heap->Prop} {a b:Value}
theorem pn_zip {Q:Option Value->Shared->Prop} (D:ZApart z TI TO i1 i2 f1 f2) (D1:Draws prog w A.in1 i1 f1 n1 P1 S1) (D2:Draws prog w A.in1 i2 f2 n2 P2 S2) (hz:IsZip s.heap z TI TO .none) (hTI:IsPair s.heap TI (.ref i1) (.ref i2)) (hTO:IsPair s.heap TO a b)
  (h1:S1 k1 s.heap) (h2:S2 k2 s.heap) (l1:k1 < n1) (l2:k2 < n2)
  (hQ:∀ x y h' tk,P1 k1 x->P2 k2 y->IsZip h' z TI TO (rawInt s.heap.objs.size)->IsPair h' TO x y->S1 (k1 + 1) h'->S2 (k2 + 1) h'->IsPair h' s.heap.objs.size x y->h'.objs.size=s.heap.objs.size + 1 →
   (∀ c o,c ≠ z->c ≠ TO->c ≠ i1->c ≠ i2->s.heap.get? c=some o->h'.get? c=some o)->Q (some (.ref s.heap.objs.size)) { s with heap:=h',toks:=tk }):wpAny (model prog w) A (pyNext (.ref z)) Q E s:=by
 have hT:s.TypeIs (.ref z) "zip":=⟨_,hz,rfl⟩
 unfold pyNext
 exact wpAny_bind (wpAny_attempt (wpAny_callSpecial?_slot (name:=Str.ofString "__next__") hT F.slot_zip_next (wpAny_call_entry F.slot_zip_next hT F.entry_zip_next
  (zip_item D D1 D2 hz hTI hTO h1 h2 l1 l2 fun x y h' tk a0 b0 a1 a2 a3 a4 a5 a6 a7=>wpAny_pure (hQ x y h' tk a0 b0 a1 a2 a3 a4 a5 a6 a7)) (F.args_zip_next_1 _))))
theorem pn_zip_end {Q:Option Value->Shared->Prop} (D:ZApart z TI TO i1 i2 f1 f2) (D1:Draws prog w A.in1 i1 f1 n1 P1 S1) (D2:Draws prog w A.in1 i2 f2 n2 P2 S2) (hz:IsZip s.heap z TI TO .none) (hTI:IsPair s.heap TI (.ref i1) (.ref i2)) (hTO:IsPair s.heap TO a b)
  (h1:S1 k1 s.heap) (h2:S2 k2 s.heap) (hend:k1=n1\/(k1 < n1/\k2=n2))
  (hQ:∀ h' tk,(∀ c o,c ≠ z->c ≠ TO->c ≠ i1->c ≠ i2->s.heap.get? c=some o->h'.get? c=some o)->Q none { s with heap:=h',toks:=tk }):wpAny (model prog w) A (pyNext (.ref z)) Q E s:=by
 have hT:s.TypeIs (.ref z) "zip":=⟨_,hz,rfl⟩
 unfold pyNext
 refine wpAny_bind (wpAny_attempt (wpAny_callSpecial?_slot (name:=Str.ofString "__next__") hT F.slot_zip_next (wpAny_call_entry F.slot_zip_next hT F.entry_zip_next
  (zip_end D D1 D2 hz hTI hTO h1 h2 hend fun h' tk e hk he=>?_) (F.args_zip_next_1 _))))
 obtain ⟨o,ho,hc⟩:=he
 refine wpAny_bind (wpAny_isInstance (T:="StopIteration") (b:=true) ⟨o,ho,hc⟩ isSubtype_stop ?_)
 exact wpAny_pure (hQ _ _ hk)
end
noncomputable abbrev zpH1 (h:Heap) (l1:Addr):Heap:=h.push { cls:=.type "list_iterator",data:=.fields #[.ref l1,.int 0 0] }
noncomputable abbrev zpH2 (h:Heap) (l1 l2:Addr):Heap:=(zpH1 h l1).push { cls:=.type "tuple_iterator",data:=.fields #[.ref l2,.int 0 0] }
noncomputable abbrev zpH3 (h:Heap) (l1 l2:Addr):Heap:=(zpH2 h l1 l2).push { cls:=.type "tuple",data:=.seq #[.ref h.objs.size,.ref (zpH1 h l1).objs.size] }
noncomputable abbrev zpH4 (h:Heap) (l1 l2:Addr):Heap:=(zpH3 h l1 l2).push { cls:=.type "tuple",data:=.seq #[.none,.none] }
noncomputable abbrev zpH5 (h:Heap) (l1 l2:Addr):Heap:=(zpH4 h l1 l2).push { cls:=.type "zip",data:=.fields #[.none,.bool false,.bool false,.ref (zpH2 h l1 l2).objs.size,.ref (zpH3 h l1 l2).objs.size] }
theorem meets_zipT (l1 l2:Addr) (xs ys:Array Value) :
  Meets (Builtin.«zip.__new__» ⟨[.type "zip",.ref l1,.ref l2],[]⟩) (fun _ R s=>s.heap.IsList l1 xs/\s.heap.IsTuple l2 ys ∧
   R (.ok (.ret (.ref (zpH4 s.heap l1 l2).objs.size))) { s with heap:=zpH5 s.heap l1 l2 }) :=
 .of_wp fun prog w A R s h=>by
  obtain ⟨hp,g,d,tk,os⟩:=s; obtain ⟨hl1,hl2,h⟩:=h
  have hsub:=sub_zip
  have hL1:Heap.IsList (Shared.heap ⟨hp,g,d,tk,os⟩) l1 xs:=hl1
  have hL2:Heap.IsTuple (Shared.heap ⟨hp.push { cls:=.type "list_iterator",data:=.fields #[.ref l1,.int 0 0] },g,d,tk,os⟩) l2 ys:=Heap.IsTuple.push hl2 _
  wp_walk using wpAny_pyIter_list hL1,wpAny_pyIter_tuple hL2
  exact ⟨_,rfl,h⟩
section
variable {prog:Program} {w:World} {A:Around} {E:Value->Shared->Prop} {s:Shared}
theorem call_zipT {l1 l2:Addr} {xs ys:Array Value} {Q:Value->Shared->Prop} (hl1:s.heap.IsList l1 xs) (hl2:s.heap.IsTuple l2 ys)
  (h:∀ h',IsZip h' (s.heap.objs.size + 4) (s.heap.objs.size + 2) (s.heap.objs.size + 3) .none->IsPair h' (s.heap.objs.size + 2) (.ref s.heap.objs.size) (.ref (s.heap.objs.size + 1)) →
   IsPair h' (s.heap.objs.size + 3) .none .none->h'.IsListIter s.heap.objs.size l1 0->h'.IsTupleIter (s.heap.objs.size + 1) l2 0 →
   (∀ c o,s.heap.get? c=some o->h'.get? c=some o)->Q (.ref (s.heap.objs.size + 4)) { s with heap:=h' }):wpAny (model prog w) A (call (.type "zip") [.ref l1,.ref l2]) Q E s:=by
 refine callType_new F.called_zip (by decide) (F.typeCall_zip_2 _ _) (F.newCall_zip_2 _ _) (fun obj=>F.args_object_init_3 obj _ _) F.entry_zip_new (meets_zipT l1 l2 xs ys) ⟨hl1,hl2,?_⟩
 have z1:(zpH1 s.heap l1).objs.size=s.heap.objs.size + 1:=Heap.size_push ..
 have z2:(zpH2 s.heap l1 l2).objs.size=s.heap.objs.size + 2:=by rw [Heap.size_push,z1]
 have z3:(zpH3 s.heap l1 l2).objs.size=s.heap.objs.size + 3:=by rw [Heap.size_push,z2]
 have z4:(zpH4 s.heap l1 l2).objs.size=s.heap.objs.size + 4:=by rw [Heap.size_push,z3]
 have g5:(zpH5 s.heap l1 l2).get? (zpH4 s.heap l1 l2).objs.size=some _:=Heap.get?_push_size _ rfl
 have g4:(zpH5 s.heap l1 l2).get? (zpH3 s.heap l1 l2).objs.size=some _:=Heap.get?_push_of_some _ (Heap.get?_push_size _ rfl)
 have g3:(zpH5 s.heap l1 l2).get? (zpH2 s.heap l1 l2).objs.size=some _:=Heap.get?_push_of_some _ (Heap.get?_push_of_some _ (Heap.get?_push_size _ rfl))
 have g2:(zpH5 s.heap l1 l2).get? (zpH1 s.heap l1).objs.size=some _:=Heap.get?_push_of_some _ (Heap.get?_push_of_some _ (Heap.get?_push_of_some _ (Heap.get?_push_size _ rfl)))
 have g1:(zpH5 s.heap l1 l2).get? s.heap.objs.size=some _:=Heap.get?_push_of_some _ (Heap.get?_push_of_some _ (Heap.get?_push_of_some _ (Heap.get?_push_of_some _ (Heap.get?_push_size _ rfl))))
 show _/\_
 rw [z2,z3,z4] at g5
 rw [z1,z2] at g3
 rw [z3] at g4
 rw [z1] at g2
 rw [z4]
 exact ⟨⟨_,g5,rfl⟩,h _ g5 g3 g4 ⟨_,g1,rfl,rfl⟩ ⟨_,g2,rfl,rfl⟩ fun c o x =>
  Heap.get?_push_of_some _ (Heap.get?_push_of_some _ (Heap.get?_push_of_some _ (Heap.get?_push_of_some _ (Heap.get?_push_of_some _ x))))⟩
end
noncomputable def Itzt (K:PySem.W.Frag) (a b:Addr):It :=
 ⟨fun i H=>∃ xs ys x y,SqL K H a xs/\SqT K H b ys/\xs[i]?=some x/\ys[i]?=some y,
  fun i H v H'=>∃ T x y,v=.ref T/\H T=none/\H'=upd H T (.tup [x,y])/\(∀ xs,SqL K H a xs->xs[i]?=some x)/\∀ ys,SqT K H b ys->ys[i]?=some y,
  fun i H=>∃ xs ys,SqL K H a xs/\SqT K H b ys/\i=min xs.length ys.length⟩
theorem turn_zipT {P:Program} {w:World} {K:PySem.W.Frag} {elts:List Expr} {k:Nat} {pos:Pos} (a b z TI TO i1 i2:Addr) (D:ZApart z TI TO i1 i2 [i1,a] [i2,b]) (hai:a ≠ i1) (hbi:b ≠ i2) :
  Turn P w K (.Tuple elts k pos) (Itzt K a b) [z,TI,TO,i1,i2] z (fun i h=>IsZip h z TI TO .none/\IsPair h TI (.ref i1) (.ref i2)/\(∃ u v,IsPair h TO u v)/\h.IsListIter i1 a i/\h.IsTupleIter i2 b i) where
 mem:=by simp
 obj:=fun i h st c hc=>by
  obtain ⟨h1,h2,⟨u,v,h3⟩,⟨o4,e4,c4,d4⟩,⟨o5,e5,c5,d5⟩⟩:=st
  simp only [List.mem_cons,List.not_mem_nil,or_false] at hc
  rcases hc with rfl | rfl | rfl | rfl | rfl
  ·exact ⟨_,h1,fun v z=>nomatch z⟩
  ·exact ⟨_,h2,fun v z=>nomatch z⟩
  ·exact ⟨_,h3,fun v z=>nomatch z⟩
  ·exact ⟨_,e4,fun v z=>by rw [d4] at z; cases z⟩
  ·exact ⟨_,e5,fun v z=>by rw [d5] at z; cases z⟩
 keep:=fun i h h' st k=>by
  obtain ⟨h1,h2,⟨u,v,h3⟩,h4,⟨o5,e5,r5⟩⟩:=st
  exact ⟨k z (by simp) _ h1,k TI (by simp) _ h2,⟨u,v,k TO (by simp) _ h3⟩,h4.at fun o e=>k i1 (by simp) o e,⟨o5,k i2 (by simp) _ e5,r5⟩⟩
 item:=by
  intro X hP hw hK hc i pins s σ H E I hf st hg
  subst hP hw hK
  obtain ⟨xs,ys,x,y,hq1,hq2,hx,hy⟩:=hg
  obtain ⟨its1,rv1,p1,hz1⟩:=I.list hq1
  obtain ⟨its2,rv2,p2,hz2⟩:=I.tuple hq2
  obtain ⟨u1,hu1,ru1⟩:=rv1.get hx
  obtain ⟨u2,hu2,ru2⟩:=rv2.get hy
  obtain ⟨h1,h2,⟨ua,va,h3⟩,h4,h5⟩:=st
  have l1:i < its1.length:=(List.getElem?_eq_some_iff.mp hu1).1
  have l2:i < its2.length:=(List.getElem?_eq_some_iff.mp hu2).1
  have D1:=Draws.list (prog:=X.prog) (w:=X.w) (A:=X.A.in1) (I.ok.hd hc) i1 a hai its1.toArray
  have D2:=draws_tup (prog:=X.prog) (w:=X.w) (A:=X.A.in1) (I.ok.hd hc) i2 b hbi its2.toArray
  refine pn_zip (k1:=i) (k2:=i) D D1 D2 h1 h2 h3 ⟨h4,p1.isList⟩ ⟨h5,p2⟩ (by simpa using l1) (by simpa using l2) fun v1 v2 h' tk e1 e2 g1 g2 g3 g4 g5 g6 hk=>?_
  have e1':v1=u1:=by
   have:its1[i]?=some v1:=by simpa using e1
   rw [hu1] at this; exact (Option.some.inj this).symm
  have e2':v2=u2:=by
   have:its2[i]?=some v2:=by simpa using e2
   rw [hu2] at this; exact (Option.some.inj this).symm
  subst e1' e2'
  refine ⟨_,rfl,?_⟩
  refine wpAny_letOwnedTupleGo_zip g1 fun h'' gz hs''=>?_
  have hlt:∀ c ∈ [z,TI,TO,i1,i2],c < s.heap.objs.size:=fun c hc=>by
   obtain ⟨o4,e4,_⟩:=h4
   obtain ⟨o5,e5,_⟩:=h5
   simp only [List.mem_cons,List.not_mem_nil,or_false] at hc
   rcases hc with rfl | rfl | rfl | rfl | rfl
   ·exact Heap.lt_size h1
   ·exact Heap.lt_size h2
   ·exact Heap.lt_size h3
   ·exact Heap.lt_size e4
   ·exact Heap.lt_size e5
  have nT:H s.heap.objs.size=none:=I.hok.fresh (Nat.le_refl _)
  have nz:∀ c ∈ [z,TI,TO,i1,i2],s.heap.objs.size ≠ c:=fun c hc=>Nat.ne_of_gt (hlt c hc)
  have up:∀ c o,c ∉ [z,TI,TO,i1,i2]->s.heap.get? c=some o->h''.get? c=some o:=fun c o hc e=>by
   simp only [List.mem_cons,List.not_mem_nil,or_false,not_or] at hc
   exact hs''.extBut _ _ hc.1 (hk c o hc.1 hc.2.2.1 hc.2.2.2.1 hc.2.2.2.2 e)
  have I':Inv X pins σ (upd H s.heap.objs.size (.tup [x,y])) { s with heap:=h'',toks:=tk }:=turnLaid I hf up (Nat.le_refl _)
   ⟨by rw [sizeLine_eq]; simp,[v1,v2],.cons ru1 (.cons ru2 .nil),_,hs''.extBut _ _ (nz z (by simp)) g5,rfl,_,rfl⟩
  refine ⟨.ref s.heap.objs.size,_,I',rfl,⟨_,x,y,rfl,nT,rfl,fun zs hz=>by rw [I.list_inj hz hq1]; exact hx,fun zs hz=>by rw [I.tuple_inj hz hq2]; exact hy⟩,⟨gz,hs''.extBut _ _ D.TIz (hk _ _ D.TIz D.TITO D.TIi1 D.TIi2 h2),⟨_,_,hs''.extBut _ _ D.TOz g2⟩,g3.1.extBut hs''.extBut D.i1z,g4.1.extBut hs''.extBut D.i2z⟩,fun c hc=>?_⟩
  rw [upd_ne (Ne.symm (nz c hc))]
  exact (hf c hc).1
 done:=by
  intro X hP hw hK hc i pins s σ H E I hf st hg
  subst hP hw hK
  obtain ⟨xs,ys,hq1,hq2,hi⟩:=hg
  obtain ⟨its1,rv1,p1,hz1⟩:=I.list hq1
  obtain ⟨its2,rv2,p2,hz2⟩:=I.tuple hq2
  obtain ⟨h1,h2,⟨ua,va,h3⟩,h4,h5⟩:=st
  have D1:=Draws.list (prog:=X.prog) (w:=X.w) (A:=X.A.in1) (I.ok.hd hc) i1 a hai its1.toArray
  have D2:=draws_tup (prog:=X.prog) (w:=X.w) (A:=X.A.in1) (I.ok.hd hc) i2 b hbi its2.toArray
  have z1:its1.toArray.size=xs.length:=by rw [List.size_toArray,rv1.length]
  have z2:its2.toArray.size=ys.length:=by rw [List.size_toArray,rv2.length]
  refine pn_zip_end (k1:=i) (k2:=i) D D1 D2 h1 h2 h3 ⟨h4,p1.isList⟩ ⟨h5,p2⟩ (by rw [z1,z2]; omega) fun h' tk hk=>⟨rfl,?_⟩
  have nit:∀ b u,H b=some u->b ∉ [z,TI,TO,i1,i2]:=fun b u e q=>by rw [(hf b q).1] at e; cases e
  have k:∀ b o,b ∉ [z,TI,TO,i1,i2]->s.heap.get? b=some o->h'.get? b=some o:=fun c o hc e=>by
   simp only [List.mem_cons,List.not_mem_nil,or_false,not_or] at hc
   exact hk c o hc.1 hc.2.2.1 hc.2.2.2.1 hc.2.2.2.2 e
  refine I.step (g':=s.gens) (d':=s.drawn) (ch:=[z,TI,TO,i1,i2]) (fun b hb=>?_) (fun b o _ _ hc e _=>k b o hc e) (fun b o _ _ hc e _=>⟨o.slots,k b o hc e⟩) (fun b ob _ e n=>n)
   (fun b o hc e=>⟨o,k b o hc e⟩) (fun b xs e=>e) (fun b u xs e=>e) (fun b ps e=>⟨#[],by rw [e]; simp⟩) (fun m hm=>?_) (fun b u e=>?_) I.bare
  ·obtain ⟨_,q1,q2,q3,q4,q5⟩:=hf b hb
   exact ⟨q3,q1,q4,q5⟩
  ·obtain ⟨ob,es,ep,ho,r⟩:=hm
   exact ⟨ob,es,ep,k _ ob (fun z=>(hf _ z).2.1 rfl) ho,r⟩
  ·refine (I.hok b u e).stay (fun c v hc q=>k c v ?_ q) (fun c q=>q) fun c xs q=>q
   rcases hc with z | z
   ·rw [z]; exact nit b u e
   ·exact nit c _ z
 self:=fun _ _ _ _ _ st h=>wpAny_pyIter_zip st.1 h
end M

set_option Elab.async false
set_option linter.all false
set_option maxRecDepth 100000
namespace M
open PySem PySem.Spec PyProof.Rows L2
noncomputable def signs (w:Int):Option (List Str):=if w=0 then some ["<",">"] else if w=1 then some ["^","v"] else none
structure Sgn (K:PySem.W.Frag) (mg:Str->Option Value):Prop where
 ex:∃ a a0 a1,mg "SIGNS"=some (.ref a)/\(∀ H,SqT K H a [.ref a0,.ref a1])/\(∀ H,SqT K H a0 [.str "<",.str ">"])/\∀ H,SqT K H a1 [.str "^",.str "v"]
theorem signs_ex {K:PySem.W.Frag} {h:Heap} {mg:Str->Option Value} (KX:K.In h) (GX:h.Ns mainGlobals mg) {a a0 a1:Addr} {d d0 d1:Option Addr} {n m0 m1:Nat} {sl sl0 sl1:Array (Option Value)} {t0 t1 t2 t3:Tok} (h1:PySem.W.nsIn K mainGlobals "SIGNS"=some (some (.ref a)))
  (h2:K.lookup a=some ⟨.type "tuple",d,.seq #[.ref a0,.ref a1] n,sl⟩) (h3:K.lookup a0=some ⟨.type "tuple",d0,.seq #[.str "<" t0,.str ">" t1] m0,sl0⟩) (h4:K.lookup a1=some ⟨.type "tuple",d1,.seq #[.str "^" t2,.str "v" t3] m1,sl1⟩):Sgn K mg :=
 ⟨a,a0,a1,PySem.W.mg_of KX GX h1,fun H=>.inr ⟨_,_,_,h2,rfl,rfl,by show 2<=2 ^ 24; decide,.cons rfl (.cons rfl .nil)⟩,fun H=>.inr ⟨_,_,_,h3,rfl,rfl,by show 2<=2 ^ 24; decide,.cons ⟨t0,rfl⟩ (.cons ⟨t1,rfl⟩ .nil)⟩,fun H=>.inr ⟨_,_,_,h4,rfl,rfl,by show 2<=2 ^ 24; decide,.cons ⟨t2,rfl⟩ (.cons ⟨t3,rfl⟩ .nil)⟩⟩
theorem atI_natV {α:Type} {xs:List α} {i:Nat} {x:α} (h:xs[i]?=some x):atI xs (i:Int)=some x:=by
 have h1:i < xs.length:=(List.getElem?_eq_some_iff.mp h).1
 unfold atI ixN
 rw [if_pos (by omega),if_pos (by omega)]
 simpa using h
section
variable {X:Cx} {G:Fc} {a e:Expr} {ma m:EV} {p p1 p2 pos tpos:Pos} {elts:List Expr} {tk:Nat}
noncomputable def iZipT (K:PySem.W.Frag) (ta:TA):TI:=fun σ H Rr=>ta σ H fun vs H1=>∃ a b,vs=[.ref a,.ref b]/\(∃ xs,SqL K H1 a xs)/\(∃ ys,SqT K H1 b ys)/\Rr (Itzt K a b) H1
theorem pi_zipT {b:Expr} {ta:TA} (hg:Gl X "zip") (hm:X.mg "zip"=none) (ha:PA X [a,b] ta) (hs:starEach [a,b] X.env=[(false,eval a X.env),(false,eval b X.env)]:=by rfl) (hs2:starEach [b] X.env=[(false,eval b X.env)]:=by rfl) :
  PI X (.Tuple elts tk tpos) (.Call (.Name "zip" p) [a,b] [] pos) (iZipT X.K ta):=by
 intro pins s σ H Rr I h
 refine Call_ (ld_blt I hg hm boot_zip (PyProof.Rows.callWith_type1 (thn (ha pos pins s σ H _ I h) fun us s1 ⟨vs,H1,I1,r1,q1⟩=>?_) (by rw [hs,hs2]) (by rw [hs2]; rfl)))
 obtain ⟨l1,l2,e,⟨xs,hx⟩,⟨ys,hy⟩,q⟩:=q1
 subst e
 obtain ⟨u1,u2,rfl,ru1,ru2⟩:=vals2 r1
 cases ru1
 cases ru2
 obtain ⟨its1,rv1,p1,hz1⟩:=I1.list hx
 obtain ⟨its2,rv2,p2,hz2⟩:=I1.tuple hy
 have hlt1:l1 < s1.heap.objs.size:=by obtain ⟨o,e,_⟩:=p1.isList; exact Heap.lt_size e
 have hlt2:l2 < s1.heap.objs.size:=by obtain ⟨o,e,_⟩:=p2; exact Heap.lt_size e
 refine call_zipT p1.isList p2 fun h' hz hTI hTO hi1 hi2 hk=>?_
 refine wpAny_pyIter_zip hz ?_
 have n1:∀ k,l1 ≠ s1.heap.objs.size + k:=fun k=>Nat.ne_of_lt (Nat.lt_of_lt_of_le hlt1 (Nat.le_add_right _ _))
 have n2:∀ k,l2 ≠ s1.heap.objs.size + k:=fun k=>Nat.ne_of_lt (Nat.lt_of_lt_of_le hlt2 (Nat.le_add_right _ _))
 have nn:∀ {j k:Nat},j ≠ k->s1.heap.objs.size + j ≠ s1.heap.objs.size + k:=fun h z=>h (Nat.add_left_cancel z)
 have D:ZApart (s1.heap.objs.size + 4) (s1.heap.objs.size + 2) (s1.heap.objs.size + 3) (s1.heap.objs.size + 0) (s1.heap.objs.size + 1) [s1.heap.objs.size + 0,l1] [s1.heap.objs.size + 1,l2] :=
  ⟨nn (by decide),nn (by decide),nn (by decide),nn (by decide),nn (by decide),nn (by decide),nn (by decide),nn (by decide),nn (by decide),nn (by decide),fun b hb=>by
   rcases List.mem_cons.mp hb with rfl | hb
   ·exact ⟨nn (by decide),nn (by decide),nn (by decide)⟩
   ·rw [List.mem_singleton.mp hb]; exact ⟨n1 _,n1 _,n1 _⟩,fun b hb=>by
   rcases List.mem_cons.mp hb with rfl | hb
   ·exact ⟨nn (by decide),nn (by decide),nn (by decide)⟩
   ·rw [List.mem_singleton.mp hb]; exact ⟨n2 _,n2 _,n2 _⟩⟩
 refine ⟨_,[s1.heap.objs.size + 4,s1.heap.objs.size + 2,s1.heap.objs.size + 3,s1.heap.objs.size + 0,s1.heap.objs.size + 1],_,_,H1,rfl,I1.kept (t':=s1.toks) hk,turn_zipT l1 l2 _ _ _ _ _ D (n1 0) (n2 1),⟨hz,hTI,⟨_,_,hTO⟩,hi1,hi2⟩,fun c hc=>?_,q⟩
 have hge:s1.heap.objs.size<=c:=by
  simp only [List.mem_cons,List.not_mem_nil,or_false] at hc
  rcases hc with rfl | rfl | rfl | rfl | rfl<;>exact Nat.le_add_right _ _
 exact I1.fpOk hge (I1.hok.fresh hge)
theorem sgn_at {K:PySem.W.Frag} {w:Int} {zs:List Str} {a0 a1:Addr} (h:signs w=some zs) (h0:∀ H,SqT K H a0 [.str "<",.str ">"]) (h1:∀ H,SqT K H a1 [.str "^",.str "v"]):∃ b,atI [V.ref a0,V.ref a1] w=some (.ref b)/\∀ H,SqT K H b (zs.map V.str):=by
 unfold signs at h
 split at h
 ·rename_i e; subst e; cases h; exact ⟨a0,rfl,h0⟩
 ·split at h
  ·rename_i e; subst e; cases h; exact ⟨a1,rfl,h1⟩
  ·cases h
noncomputable def iZs (ma m:EV):Ev->R (List D):=fun E=>ma E >>= fun x=>m E >>= fun y=>match x,y with
 | .lst xs,.int w=>match signs w with
  | some zs=>.ok (List.zipWith (fun a b=>D.tup [a,.str b]) xs zs)
  | none=>.no
 | _,_=>.no
theorem si_zipS (SA:Sgn X.K X.mg) (hg:Gl X "zip") (hm:X.mg "zip"=none) (hgs:Gl X "SIGNS") (ha:SF X G a ma) (he:SE X G e m) (hp:PlainIx e:=by exact fun _ _=>rfl) (hs:starEach [a,.Subscript (.Name "SIGNS" p1) e p2] X.env=[(false,eval a X.env),(false,eval (.Subscript (.Name "SIGNS" p1) e p2) X.env)]:=by rfl) (hs2:starEach [.Subscript (.Name "SIGNS" p1) e p2] X.env=[(false,eval (.Subscript (.Name "SIGNS" p1) e p2) X.env)]:=by rfl) :
  SI X G (.Tuple elts tk tpos) (.Call (.Name "zip" p) [a,.Subscript (.Name "SIGNS" p1) e p2] [] pos) (iZs ma m):=by
 obtain ⟨aS,a0,a1,h1,h2,h3,h4⟩:=SA.ex
 refine (pi_zipT hg hm (pa_cons ha (pa_cons (pe_ix ix_tup (pe_glob (v:=V.ref aS) hgs h1 rfl) he hp) pa_nil hs2) (by rw [hs,hs2])) hs hs2).imp ?_
 rintro σ H Q ⟨E,hr,f⟩
 refine ⟨E,hr,(Fin.bind f).mono fun d p v H1 s1 z=>⟨E,hr.same s1,(Fin.bind p).mono fun dw p w H2 s2 y=>?_⟩⟩
 cases d with
 | lst xs =>
  cases dw with
  | int wv =>
   dsimp only at p
   cases hz:signs wv with
   | none=>rw [hz] at p; exact p.elim
   | some zs =>
    rw [hz] at p
    obtain ⟨b,e1,e2⟩:=sgn_at hz h3 h4
    have z:=z.mono s2 fun _ q=>q
    unfold Rp at z
    obtain ⟨l1,vs,rfl,no1,hl1,r1⟩:=z
    refine ⟨aS,[.ref a0,.ref a1],wv,.ref b,rfl,y.int,h2 H2,e1,l1,b,rfl,⟨vs,SqL.of hl1⟩,⟨_,e2 H2⟩,p _ H2 (s1.trans s2) fun G' E' σ' H' le r'=>?_⟩
    have h1':=(locked le r' _ _ no1 hl1).1
    refine ⟨⟨vs,zs.map V.str,SqL.of h1',e2 _,by rw [List.length_zipWith,r1.length,List.length_map]⟩,fun i d hd=>?_⟩
    have hd':∃ dx c,xs[i]?=some dx/\zs[i]?=some c/\d=.tup [dx,.str c]:=by
     rw [List.getElem?_zipWith] at hd
     cases e3:xs[i]? with
     | none=>rw [e3] at hd; simp at hd
     | some dx =>
      cases e4:zs[i]? with
      | none=>rw [e3,e4] at hd; simp at hd
      | some dy=>rw [e3,e4] at hd; simp at hd; exact ⟨dx,dy,rfl,rfl,hd.symm⟩
    obtain ⟨dx,c,e3,e4,rfl⟩:=hd'
    obtain ⟨vx,hvx,px⟩:=r1.get e3
    have hvy:(zs.map V.str)[i]?=some (.str c):=by rw [List.getElem?_map,e4]; rfl
    refine ⟨⟨vs,_,vx,.str c,SqL.of h1',e2 _,hvx,hvy⟩,?_⟩
    rintro x H'' ⟨T,ux,uy,ex,nT,eH,q1,q2⟩
    subst ex eH
    have b1:=q1 vs (SqL.of h1')
    have b2:=q2 _ (e2 _)
    rw [hvx] at b1; cases b1
    rw [hvy] at b2; cases b2
    refine ⟨same_upd nT,?_⟩
    unfold Rp
    refine ⟨T,[vx,.str c],rfl,r'.fresh nT,upd_same,Rps.cons ?_ (Rps.cons (by unfold Rp; rfl) Rps.nil)⟩
    exact (px.move (locked le r')).mono (same_upd nT) fun _ q=>q
  | _=>exact p.elim
 | _=>exact p.elim
noncomputable def eSign (j:Nat) (m:EV):EV:=fun E=>m E >>= fun d=>match d with
 | .int w=>match (signs w).bind fun zs=>zs[j]? with
  | some z=>.ok (.str z)
  | none=>.no
 | _=>.no
theorem sf_sign (j:Nat) {k:Nat} {p3 kpos:Pos} (SA:Sgn X.K X.mg) (hgs:Gl X "SIGNS") (he:SE X G e m) (hp:PlainIx e:=by exact fun _ _=>rfl):SF X G (.Subscript (.Subscript (.Name "SIGNS" p1) e p2) (.Constant (.int (j:Nat)) k kpos) p3) (eSign j m):=by
 obtain ⟨aS,a0,a1,h1,h2,h3,h4⟩:=SA.ex
 refine (pe_ix ix_tup (pe_ix ix_tup (pe_glob (v:=V.ref aS) hgs h1 rfl) he hp) pe_int (fun _ _=>rfl)).imp ?_
 rintro σ H Q ⟨E,hr,f⟩
 refine ⟨E,hr,(Fin.bind f).mono fun d p v H1 s1 z=>?_⟩
 cases d with
 | int wv =>
  dsimp only at p
  cases hz:signs wv with
  | none=>rw [hz] at p; exact p.elim
  | some zs =>
   rw [hz] at p
   cases hj:zs[j]? with
   | none=>rw [Option.bind_some,hj] at p; exact p.elim
   | some c =>
    rw [Option.bind_some,hj] at p
    obtain ⟨b,e1,e2⟩:=sgn_at hz h3 h4
    refine ⟨aS,[.ref a0,.ref a1],wv,.ref b,rfl,z.int,h2 H1,e1,b,_,j,.str c,rfl,rfl,e2 H1,?_,p _ H1 s1 (by unfold Rp; rfl)⟩
    exact atI_natV (by rw [List.getElem?_map,hj]; rfl)
 | _=>exact p.elim
theorem sf_gstr {x:Str} {z:Str} (h:∃ t,X.mg x=some (.str z t)) (hg:Gl X x) (hd:(x == ("__debug__":Str))=false:=by decide):SF X G (.Name x pos) (kE (.str z)):=by
 obtain ⟨t,h⟩:=h
 exact (pe_glob (v:=V.str z) hg h ⟨t,rfl⟩ hd).imp fun σ H Q z0=>z0.elim fun E z0=>z0.elim fun r f=>f _ H (Same.refl _) rfl
end
end M

set_option Elab.async false
set_option linter.all false
set_option maxRecDepth 100000
namespace M
open PySem PySem.Spec PyProof.Rows L2
noncomputable def OutU (K:PySem.W.Frag) (G:Fc) (Dn:Ends):Out->Prop
 | .nx E=>∀ σ H,Rel K G E σ H->Dn.nx σ H
 | .bk E=>∀ σ H,Rel K G E σ H->Dn.bk σ H
 | .ct E=>∀ σ H,Rel K G E σ H->Dn.ct σ H
 | .rt d=>∀ t a b H xs ys,d=.tup [.lst xs,.lst ys]->Same G.h0 H->G.h0 a=none->G.h0 b=none->a ≠ b->H t=some (.tup [.ref a,.ref b])->Own K H (or2 G.pr a b) (.lst xs) a->Own K H (or2 G.pr a b) (.lst ys) b->Dn.rt (.ref t) H
noncomputable def SBU (X:Cx) (G:Fc) (st:List Stmt) (m:EX):Prop:=PSs X st fun Dn σ H=>∃ E,Rel X.K G E σ H/\Fin (m E) (OutU X.K G Dn) G.xc
noncomputable def SSU (X:Cx) (G:Fc) (st:Stmt) (m:EX):Prop:=PS X st fun Dn σ H=>∃ E,Rel X.K G E σ H/\Fin (m E) (OutU X.K G Dn) G.xc
noncomputable def xRetU (i j:Nat):EX:=fun E=>match E[i]?,E[j]? with
 | some (.ow (.lst xs)),some (.ow (.lst ys))=>.ok (.rt (.tup [.lst xs,.lst ys]))
 | _,_=>.no
section
variable {X:Cx} {G:Fc} {st:Stmt} {rest:List Stmt} {m n:EX} {pos tpos:Pos}
theorem sbu_one (h:SSU X G st m):SBU X G [st] m:=pss_one h
theorem sbu_then (h1:SS X G st m) (h2:SBU X G rest n):SBU X G (st :: rest) (xThen m n):=(pss_cons h1 h2).imp fun D σ H h=>by
 obtain ⟨E,hr,f⟩:=h
 refine ⟨E,hr,(Fin.bind f).mono fun o p=>?_⟩
 cases o with
 | nx E'=>exact fun σ' H' r'=>⟨E',r',p⟩
 | bk E'=>exact p.elim
 | ct E'=>exact p.elim
 | rt d=>exact p.elim
theorem ssu_ret (i j:Nat) {x y:Str} {p p':Pos} {x1:Nat} (hij:i ≠ j:=by decide) (hN:X.N[i]?=some x:=by rfl) (hN':X.N[j]?=some y:=by rfl) (hv:Vis X.env.scope x:=by first | exact Or.inl rfl | exact Or.inr (Or.inl rfl) | exact Or.inr (Or.inr rfl)) (hv':Vis X.env.scope y:=by first | exact Or.inl rfl | exact Or.inr (Or.inl rfl) | exact Or.inr (Or.inr rfl)) (hd:(x == ("__debug__":Str))=false:=by decide) (hcd:(x == ("__classdict__":Str))=false:=by decide) (hd':(y == ("__debug__":Str))=false:=by decide) (hcd':(y == ("__classdict__":Str))=false:=by decide)
  (hs:starEach [.Name x p,.Name y p'] X.env=(false,eval (.Name x p) X.env) :: starEach [.Name y p'] X.env:=by rfl) (hs2:starEach [.Name y p'] X.env=(false,eval (.Name y p') X.env) :: starEach [] X.env:=by rfl):SSU X G (.Return (some (.Tuple [.Name x p,.Name y p'] x1 tpos)) pos) (xRetU i j) :=
 (ps_ret (pe_tup (pa_cons (pe_var hN hv hd hcd) (pa_cons (pe_var hN' hv' hd' hcd') pa_nil hs2) hs))).imp fun D σ H h=>by
  obtain ⟨E,hr,f⟩:=h
  unfold xRetU at f
  split at f
  ·rename_i xs ys hi hj
   obtain ⟨a,e1,e2,e3⟩:=hr.ow i _ hi
   obtain ⟨b,e1',e2',e3'⟩:=hr.ow j _ hj
   have nab:a ≠ b:=fun z=>by subst z; exact hij (hr.ne i j _ _ a hi hj e1 e1')
   refine ⟨.ref a,e1,.ref b,e1',by simp [sizeLine_eq],fun q hq=>?_⟩
   have su:Same H (upd H q (.tup [.ref a,.ref b])):=same_upd hq
   have sub:∀ c,or2 G.pr a b c->Ow G.pr E σ c:=fun c hc=>by
    rcases hc with (hc | hc) | hc
    ·exact .inl hc
    ·exact .inr ⟨i,_,hi,by rw [hc]; exact e1⟩
    ·exact .inr ⟨j,_,hj,by rw [hc]; exact e1'⟩
   exact f q a b _ xs ys rfl (hr.base.trans su) e3 e3' nab upd_same (e2.mono su sub) (e2'.mono su sub)
  ·exact f.elim
end
noncomputable def spU (K:PySem.W.Frag) (n:Nat) (den:List D->R D):Sp:=fun vs H Q _=>vs.length=n/\∃ (pr:Addr->Prop) (ds:List D),(∀ a,pr a->∃ o,H a=some o/\NoTup o)/\Rps K H pr ds vs/\Fin (den ds) (fun d=>∀ t a b H' xs ys,d=.tup [.lst xs,.lst ys]->Same H H'->H a=none->H b=none->a ≠ b->H' t=some (.tup [.ref a,.ref b])->Own K H' (or2 pr a b) (.lst xs) a->Own K H' (or2 pr a b) (.lst ys) b->Q (.ref t) H') fun _=>False
structure CalU (P:Program) (w:World) (K:PySem.W.Frag) (mg:Str->Option Value) (base:Heap) (x:Str) (ps:List Str) (k:Nat) (dn:List D->R D):Prop where
 ex:∃ (f:Addr) (fd:FuncData),mg x=some (.ref f)/\PySem.W.keepIn K (.ref f)=true/\Binds K fd ps []/\FnOk P w K mg base CX0 k f fd ps (spU K ps.length dn)
noncomputable def twoL (dn:List D->R D):List D->R D:=fun ds=>dn ds >>= fun d=>match d with
 | .tup [.lst xs,.lst ys]=>.ok (.tup [.lst xs,.lst ys])
 | _=>.no
section
variable {P:Program} {w:World} {K:PySem.W.Frag} {mg:Str->Option Value} {base:Heap} {x qual:Str} {st:Stmt} {f:Addr} {fd:FuncData} {N ps:List Str} {k:Nat} {m:EX}
theorem fn_okU (F:Fun K x qual st f fd) (S:FnScope N ps (defScope st))
  (hb:∀ (cdv:Value) (A:Around) (outer:List Env) (s:Shared) (H:Hp) (E:XK),Room k (bx P w K mg base N qual (defScope st) f cdv A outer s H E).A->Gd (bx P w K mg base N qual (defScope st) f cdv A outer s H E)->∀ G:Fc,(∀ c,¬ G.xc c)->SBU (bx P w K mg base N qual (defScope st) f cdv A outer s H E) G (defBody st) m) :
  FnOk P w K mg base CX0 (k + 1) f fd ps (spU K ps.length (denN N.length m)) :=
 F.ok S (fun vs H Q E h=>h.1) (by
  rintro cdv A outer s H vs Q E hr ⟨hl,pr,ds,hp,rs,f⟩
  have gd:Gd (bx P w K mg base N qual (defScope st) _ cdv A outer s H E):=⟨rfl,PassesOwn.never,S.nd,by have:=hr.units; exact Nat.lt_of_le_of_lt (Nat.add_le_add_left (by decide) _) this⟩
  refine ⟨_,hb cdv A outer s H E hr gd ⟨H,pr,fun _=>False⟩ (fun _ h=>h),startE N.length ds,rel_start hp rs,?_⟩
  refine (Fin.bind f).mono fun o p=>?_
  cases o with
  | rt d=>exact p
  | nx E'=>exact p.elim
  | bk E'=>exact p.elim
  | ct E'=>exact p.elim)
theorem rp_two {K:PySem.W.Frag} {H H':Hp} {pr:Addr->Prop} {t a b:Addr} {xs ys:List D} (hp:∀ a,pr a->∃ o,H a=some o/\NoTup o) (s:Same H H') (na:H a=none) (nb:H b=none) (ht:H' t=some (.tup [.ref a,.ref b])) (oa:Own K H' (or2 pr a b) (.lst xs) a) (ob:Own K H' (or2 pr a b) (.lst ys) b):Rp K H' pr (.tup [.lst xs,.lst ys]) (.ref t):=by
 have sub:∀ c,pr c->or2 pr a b c:=fun c h=>.inl (.inl h)
 have np:∀ c,H c=none->¬ pr c:=fun c h z=>by obtain ⟨o,e,_⟩:=hp c z; rw [h] at e; cases e
 obtain ⟨vs,h1,r1⟩:=oa
 obtain ⟨ws,h2,r2⟩:=ob
 unfold Rp
 refine ⟨t,_,rfl,fun z=>?_,ht,Rps.cons ?_ (Rps.cons ?_ Rps.nil)⟩
 ·obtain ⟨o,e,n⟩:=hp t z
  rw [s _ _ e] at ht; cases ht; exact n
 ·unfold Rp; exact ⟨a,vs,rfl,np a na,h1,r1.mono (Same.refl _) sub⟩
 ·unfold Rp; exact ⟨b,ws,rfl,np b nb,h2,r2.mono (Same.refl _) sub⟩
theorem CalU.cal {dn:List D->R D} (C:CalU P w K mg base x ps k dn):Cal P w K mg base x ps k (twoL dn):=by
 obtain ⟨f,fd,h1,h2,h3,F⟩:=C.ex
 refine ⟨f,fd,h1,h2,h3,⟨fun vs H Q E h=>h.1,fun A outer s H args us vs Q E hr e0 b r h=>F.2 A outer s H args us vs Q E hr e0 b r ?_⟩⟩
 obtain ⟨hl,pr,ds,hp,rs,fn⟩:=h
 refine ⟨hl,pr,ds,hp,rs,?_⟩
 unfold twoL at fn
 refine (Fin.bind fn).mono fun d q t a b H' xs ys e s na nb nab ht oa ob=>?_
 subst e
 exact q _ _ s (rp_two hp s na nb ht oa ob)
end
end M

set_option Elab.async false
set_option linter.all false
set_option maxRecDepth 100000
namespace M
open PySem PySem.Spec PyProof.Rows L2
theorem Rel.off {K:PySem.W.Frag} {G:Fc} {E:Ev} {σ:St} {H:Hp} {i:Nat} {v:Option V} (r:Rel K G E σ H):Rel K G (E.set i .un) (σ.set i v) H:=by
 have osub:∀ b,Ow G.pr (E.set i .un) (σ.set i v) b->Ow G.pr E σ b:=fun b h=>by
  rcases h with h | ⟨j,d,h1,h2⟩
  ·exact .inl h
  ·rcases get_set h1 with ⟨_,z⟩ | ⟨n,h1⟩
   ·cases z
   ·rw [set_ne n] at h2; exact .inr ⟨j,d,h1,h2⟩
 refine ⟨by simp [r.len],fun j d h=>?_,fun j d h=>?_,fun j k d e b h1 h2 h3 h4=>?_,r.base,r.prt⟩
 ·rcases get_set h with ⟨_,z⟩ | ⟨n,h⟩
  ·cases z
  ·obtain ⟨u,q1,q2⟩:=r.fz j d h
   exact ⟨u,by rw [set_ne n]; exact q1,q2.mono (Same.refl _) osub⟩
 ·rcases get_set h with ⟨_,z⟩ | ⟨n,h⟩
  ·cases z
  ·obtain ⟨u,q1,q2,q3⟩:=r.ow j d h
   exact ⟨u,by rw [set_ne n]; exact q1,q2.mono (Same.refl _) osub,q3⟩
 ·rcases get_set h1 with ⟨_,z⟩ | ⟨n1,h1⟩
  ·cases z
  ·rcases get_set h2 with ⟨_,z⟩ | ⟨n2,h2⟩
   ·cases z
   ·rw [set_ne n1] at h3; rw [set_ne n2] at h4
    exact r.ne j k d e b h1 h2 h3 h4
noncomputable def xFnd (i:Nat) (mt:EV) (dnR:List D->R D) (m1 m2:EV) (dnG:List D->R D) (m3 m4:EV):EX:=fun E=>mt E >>= fun t=>dnR [t] >>= fun d=>match d with
 | .tup [.lst xs,.lst ys]=>if xs.length<=1000/\ys.length<=1000/\i < E.length then (m1 (E.set i .un) >>= fun d1=>m2 (E.set i .un) >>= fun d2=>dnG [.tup [.lst xs,.lst ys],d1,d2] >>= fun g=>match g with
  | .bl true=>m3 (E.set i .un) >>= fun _=>m4 (E.set i .un) >>= fun _=>.ok (.nx (E.set i .un))
  | .bl false=>.ok (.rt (.bl false))
  | _=>.no) else .no
 | _=>.no
section
variable {X:Cx} {G:Fc}
theorem sb_found (i:Nat) {x r g:Str} {px pr1 pr2 ps1 p1 pg1 pg2 pn pb pr3 pi p2 p3 pc0 pc1 pq0 pq1 pa0 pa1 pl0 pl1 pe0 pe1:Pos} {et e1 e2 e3 e4:Expr} {mt m1 m2 m3 m4:EV} {dnR dnG:List D->R D} {pr pg:List Str} {kr kg kk jb j0 j1:Nat} {rest:List Stmt} {n:EX} (gd:Gd X) (hx:∀ c,¬ G.xc c) (CR:CalU X.prog X.w X.K X.mg X.base r pr kr dnR) (CG:Cal X.prog X.w X.K X.mg X.base g pg kg dnG) (lr:pr.length=1) (lg:pg.length=3) (hroom:Room kk X.A) (hkr:kr<=kk) (hkg:kg<=kk) (hgr:Gl X r) (hgg:Gl X g)
  (ht:SF X G et mt) (h1:SF X G e1 m1) (h2:SF X G e2 m2) (h3:SF X G e3 m3) (h4:SF X G e4 m4) (hrest:SB X G rest n)
  (hN:X.N[i]?=some x:=by rfl) (hl:Loc X.env.scope x:=by first | exact Or.inl rfl | exact Or.inr rfl) (hv:Vis X.env.scope x:=by first | exact Or.inl rfl | exact Or.inr (Or.inl rfl) | exact Or.inr (Or.inr rfl)) (hd:(x == ("__debug__":Str))=false:=by decide) (hcd:(x == ("__classdict__":Str))=false:=by decide) (hf:X.fn x=true\/X.env.scope.names.lookup x=some .local:=by first | exact .inl rfl | exact .inr rfl | assumption)
  (hdr:(r == ("__debug__":Str))=false:=by decide) (hdg:(g == ("__debug__":Str))=false:=by decide)
  (hsw:swapsWith (.Call (.Name r pr1) [et] [] pr2) (some (.Name x px)) ps1.line X.env=pure false:=by rfl)
  (s1:starEach [et] X.env=(false,eval et X.env) :: starEach [] X.env:=by rfl) (q1:(backTo pr2 (starEach [] X.env)).any (·.1)=false:=by rfl)
  (s2:starEach [.Name x p1,e1,e2] X.env=(false,eval (.Name x p1) X.env) :: starEach [e1,e2] X.env:=by rfl) (s3:starEach [e1,e2] X.env=(false,eval e1 X.env) :: starEach [e2] X.env:=by rfl) (s4:starEach [e2] X.env=(false,eval e2 X.env) :: starEach [] X.env:=by rfl) (q2:(backTo pg2 (starEach [e1,e2] X.env)).any (·.1)=false:=by rfl)
  (ht2:∀ whole,isTrue (.Call (.Name g pg1) [.Name x p1,e1,e2] [] pg2) X.env whole=(do let v ← whole; standAt (Expr.Call (.Name g pg1) [.Name x p1,e1,e2] [] pg2).pos; holding [v] (truthy v)):=by intro _; rfl)
  (b0:attributeBase (.Subscript (.Name x p2) (.Constant (.int 0) j0 pc0) pq0) "append" X.env (eval (.Subscript (.Name x p2) (.Constant (.int 0) j0 pc0) pq0) X.env)=eval (.Subscript (.Name x p2) (.Constant (.int 0) j0 pc0) pq0) X.env:=by rfl)
  (f0:((backTo pl0 (starEach [e3] X.env)).all (fun x=>!x.1) && (backToKw pl0 (keywordEach [] X.env)).all (fun x=>x.1.isSome) && decide ([e3].length + ([]:List Keyword).length + (if ([]:List Keyword).isEmpty then 0 else 1) < 30))=true:=by rfl)
  (n0:(pa0.endLine == pl0.line)=true:=by rfl) (s5:starEach [e3] X.env=(false,eval e3 X.env) :: starEach [] X.env:=by rfl) (q5:(backTo pl0 (starEach [] X.env)).any (·.1)=false:=by rfl)
  (b1:attributeBase (.Subscript (.Name x p3) (.Constant (.int 1) j1 pc1) pq1) "append" X.env (eval (.Subscript (.Name x p3) (.Constant (.int 1) j1 pc1) pq1) X.env)=eval (.Subscript (.Name x p3) (.Constant (.int 1) j1 pc1) pq1) X.env:=by rfl)
  (f1:((backTo pl1 (starEach [e4] X.env)).all (fun x=>!x.1) && (backToKw pl1 (keywordEach [] X.env)).all (fun x=>x.1.isSome) && decide ([e4].length + ([]:List Keyword).length + (if ([]:List Keyword).isEmpty then 0 else 1) < 30))=true:=by rfl)
  (n1:(pa1.endLine == pl1.line)=true:=by rfl) (s6:starEach [e4] X.env=(false,eval e4 X.env) :: starEach [] X.env:=by rfl) (q6:(backTo pl1 (starEach [] X.env)).any (·.1)=false:=by rfl) :
  SB X G (.Assign [.Name x px] (.Call (.Name r pr1) [et] [] pr2) ps1 :: .If (.UnaryOp .Not (.Call (.Name g pg1) [.Name x p1,e1,e2] [] pg2) pn) [.Return (some (.Constant (.bool false) jb pb)) pr3] [] pi ::
   .Expr (.Call (.Attribute (.Subscript (.Name x p2) (.Constant (.int 0) j0 pc0) pq0) "append" pa0) [e3] [] pl0) pe0 :: .Expr (.Call (.Attribute (.Subscript (.Name x p3) (.Constant (.int 1) j1 pc1) pq1) "append" pa1) [e4] [] pl1) pe1 :: rest)
   (xSeq (xFnd i mt dnR m1 m2 dnG m3 m4) n):=by
 obtain ⟨fr,fdr,mr,kpr,br,FR⟩:=CR.ex
 obtain ⟨fg,fdg,mg',kpg,bg,FG⟩:=CG.ex
 have A1:=ps_set gd.nd hN hl (pe_call FR (hroom.mono hkr) hgr mr kpr br .nil pass0 (pa_cons ht pa_nil s1) hdr s1 q1) hsw hf
 have A2:=ps_if (pos:=pi) (pt_not (pos:=pn) (pt_val (pe_call FG (hroom.mono hkg) hgg mg' kpg bg .nil pass0 (pa_cons (pe_var hN hv hd hcd) (pa_cons h1 (pa_cons h2 pa_nil s4) s3) s2) hdg s2 q2) ht2)) (pss_one (ps_ret (pos:=pr3) (pe_bl (b:=false) (j:=jb) (pos:=pb)))) pss_nil
 have A3:=ps_expr (pos:=pe0) (pe_bm PySem.F.plainAttrs_list PySem.F.slot_list_append PySem.F.type_list_append mt_append (pe_ix (pos:=pq0) ix_tup (pe_var (pos:=p2) hN hv hd hcd) (pe_int (i:=0) (j:=j0) (pos:=pc0)) (fun _ _=>rfl)) (pa_cons h3 pa_nil s5) b0 f0 n0 s5 q5)
 have A4:=ps_expr (pos:=pe1) (pe_bm PySem.F.plainAttrs_list PySem.F.slot_list_append PySem.F.type_list_append mt_append (pe_ix (pos:=pq1) ix_tup (pe_var (pos:=p3) hN hv hd hcd) (pe_int (i:=1) (j:=j1) (pos:=pc1)) (fun _ _=>rfl)) (pa_cons h4 pa_nil s6) b1 f1 n1 s6 q6)
 refine (pss_cons A1 (pss_cons A2 (pss_cons A3 (pss_cons A4 hrest)))).imp ?_
 rintro Dn σ H ⟨E,hr,f⟩
 have f:=Fin.bind f
 unfold xFnd at f
 refine ⟨E,hr,(Fin.bind f).mono fun t f v Ha sa z=>?_⟩
 have hra:=hr.same sa
 refine ⟨by simp [lr],Ow G.pr E σ,[t],fun c hc=>hra.owned hc,Rps.cons z Rps.nil,?_⟩
 cases qr:dnR [t] with
 | er c=>rw [qr] at f; exact hx c f
 | no=>rw [qr] at f; exact f
 | ok d =>
  rw [qr] at f
  simp only [R.ok_bind] at f
  rintro T a b Hb xs ys rfl sb na nb nab hT oa ob
  dsimp only at f
  by_cases hlen:xs.length<=1000/\ys.length<=1000/\i < E.length
  ·rw [if_pos hlen] at f
   have hi:i < σ.length:=by rw [<-hr.len]; exact hlen.2.2
   have rb:Rel X.K G (E.set i .un) (σ.set i (some (.ref T))) Hb:=(hra.same sb).off
   have wk:∀ c,Ow G.pr (E.set i .un) (σ.set i (some (.ref T))) c->Ow G.pr E σ c:=fun c h=>by
    rcases h with h | ⟨j,d,h1,h2⟩
    ·exact .inl h
    ·rcases get_set h1 with ⟨_,z⟩ | ⟨n,h1⟩
     ·cases z
     ·rw [set_ne n] at h2; exact .inr ⟨j,d,h1,h2⟩
   have rp:=rp_two (fun c hc=>hra.owned hc) sb na nb hT oa ob
   refine ⟨.ref T,set_self hi,E.set i .un,rb,(Fin.bind f).mono fun d1 f v1 Hc sc z1=>⟨E.set i .un,rb.same sc,(Fin.bind f).mono fun d2 f v2 Hd sd z2=>?_⟩⟩
   have rd:=rb.same (sc.trans sd)
   refine ⟨by simp [lg],Ow G.pr (E.set i .un) (σ.set i (some (.ref T))),[.tup [.lst xs,.lst ys],d1,d2],fun c hc=>rd.owned hc,Rps.cons ((rp.mono (sc.trans sd) fun _ z=>z).mono (Same.refl _) wk) (Rps.cons (z1.mono sd fun _ z=>z) (Rps.cons z2 Rps.nil)),?_⟩
   cases qg:dnG [.tup [.lst xs,.lst ys],d1,d2] with
   | er c=>rw [qg] at f; exact hx c f
   | no=>rw [qg] at f; exact f
   | ok dg =>
    rw [qg] at f
    simp only [R.ok_bind] at f
    intro vg He se zg
    cases dg with
    | bl kb =>
     unfold Rp at zg
     subst zg
     refine ⟨kb,rfl,?_⟩
     have re:=rd.same se
     cases kb with
     | false =>
      refine iteT ?_
      exact f _ He (re.base) rfl
     | true =>
      refine iteF ?_
      have cde:=sc.trans (sd.trans se)
      obtain ⟨vs,ha,ra⟩:=oa
      obtain ⟨ws,hb',rb'⟩:=ob
      have lv:vs.length=xs.length:=ra.length
      have lw:ws.length=ys.length:=rb'.length
      have HT:He T=some (.tup [.ref a,.ref b]):=cde _ _ hT
      have HA:He a=some (.lst vs):=cde _ _ ha
      have HB:He b=some (.lst ws):=cde _ _ hb'
      have base:Same Ha He:=sb.trans cde
      refine ⟨.ref T,set_self hi,T,_,0,.ref a,rfl,rfl,SqT.of HT,rfl,.inl ⟨rfl,vs,SqL.of HA⟩,E.set i .un,re,(Fin.bind f).mono fun d3 f v3 Hf sf z3=>?_⟩
      refine ⟨a,vs,v3,rfl,rfl,sf _ _ HA,by rw [sizeLine_eq]; omega,?_⟩
      have nTa:T ≠ a:=fun z=>by rw [z,HA] at HT; cases HT
      have s1':Same Ha (upd Hf a (.lst (vs++[v3]))):=same_at (base.trans sf) na
      have r1:Rel X.K G (E.set i .un) (σ.set i (some (.ref T))) (upd Hf a (.lst (vs++[v3]))):=(hra.same s1').off
      have HT1:(upd Hf a (.lst (vs++[v3]))) T=some (.tup [.ref a,.ref b]):=by rw [upd_ne nTa]; exact sf _ _ HT
      have HB1:(upd Hf a (.lst (vs++[v3]))) b=some (.lst ws):=by rw [upd_ne (Ne.symm nab)]; exact sf _ _ HB
      refine ⟨.ref T,set_self hi,T,_,1,.ref b,rfl,rfl,SqT.of HT1,rfl,.inl ⟨rfl,ws,SqL.of HB1⟩,E.set i .un,r1,(Fin.bind f).mono fun d4 f v4 Hg sg z4=>?_⟩
      refine ⟨b,ws,v4,rfl,rfl,sg _ _ HB1,by rw [sizeLine_eq]; omega,?_⟩
      exact ⟨_,(hra.same (same_at (s1'.trans sg) nb)).off,f⟩
    | _=>exact f.elim
  ·rw [if_neg hlen] at f; exact f.elim
end
end M
namespace M
open PySem PySem.Spec PyProof.Rows L2
theorem str_ex {K:PySem.W.Frag} {h:Heap} {x z:Str} {t:Tok} (_:K.In h) (a:PySem.W.nsIn K mainGlobals x=some (some (.str z t))):∃ t,PySem.W.nsIn K mainGlobals x=some (some (.str z t)):=⟨t,a⟩
end M

set_option Elab.async false
set_option linter.all false
set_option maxRecDepth 100000
namespace M
open PySem PySem.W PySem.Spec PyProof.Rows L2
section
variable {X:Cx} {a:Addr} {i:Nat} {e e' e'':Expr} {b b' b'':Bool} {pos:Pos}
theorem he_not (h:HE X a i e (.bl b)):HE X a i (.UnaryOp .Not e pos) (.bl (!b)) :=
 (pe_not h).imp fun σ H Q ⟨q1,q2⟩=>⟨q1,b,rfl,q2⟩
theorem ht_not (h:HT X a i e b):HT X a i (.UnaryOp .Not e pos) (!b) :=
 (pt_not h).imp fun σ H Q ⟨q1,q2⟩=>⟨q1,q2⟩
theorem ht_or3 (h1:HT X a i e b) (h2:HT X a i e' b') (h3:HT X a i e'' b''):HT X a i (.BoolOp .Or [e,e',e''] pos) (b || b' || b'') :=
 (PW.pt (pw_or h1 (pw_or h2 (pw_or1 h3)))).imp fun σ H Q ⟨q1,q2⟩=>⟨q1,by
  cases b with
  | true=>exact q2
  | false =>
   refine ⟨q1,?_⟩
   cases b' with
   | true=>exact q2
   | false=>exact ⟨q1,q2⟩⟩
end
section
variable {X:Cx} {G:Fc}
noncomputable def rSlS:V->Option Int->Option Int->Hp->VK->Prop:=fun x lo hi H Q=>∃ z,x=.str z/\z.length<=sizeLine/\Q (.str (Txt.slice z lo hi)) H
theorem sl_str:SlR X rSlS:=by
 intro pins s σ H x v vl vu lo hi sl Q I rx hs pl pu h
 obtain ⟨z,rfl,hz,q⟩:=h
 obtain ⟨t,rfl⟩:=rx
 obtain ⟨o,g1,g2,g3⟩:=hs
 refine ⟨"str",_,F.slot_str_getitem.lookup,typeIs_str _ _ _,?_⟩
 have fin:∀ (l u:Option (Int × Tok)),l.map (·.1)=lo->u.map (·.1)=hi->o.data=.fields #[partValue l,partValue u,.none]->wpAny (model X.prog X.w) X.A (getItem (.str z t) (.ref sl)) (EP X pins σ Q) X.xe s:=fun l u e1 e2 e3=>by
  refine wpAny_getItem_str_slice (l:=l) (u:=u) (st:=none) ⟨o,g1,g2,e3⟩ rfl ?_
  unfold sliceMade slicePicked
  rw [e1,e2]
  exact post_val_or_str ⟨Nat.le_trans (Txt.slice_le z lo hi) hz,fun t' k=>⟨.str _,H,I.tok _,⟨_,rfl⟩,q⟩⟩
 cases pl with
 | none=>cases pu with
  | none=>exact fin none none rfl rfl g3
  | int j u=>exact fin none (some (j,u)) rfl rfl g3
 | int i u=>cases pu with
  | none=>exact fin (some (i,u)) none rfl rfl g3
  | int j u'=>exact fin (some (i,u)) (some (j,u')) rfl rfl g3
noncomputable def fSlS:D->Option Int->Option Int->Option D
 | .str z,lo,hi=>if z.length<=1000000 then some (.str (Txt.slice z lo hi)) else none
 | _,_,_=>none
noncomputable def eSlS (a:EV) (lo hi:Ev->R (Option Int)):EV:=fun E=>a E >>= fun x=>lo E >>= fun l=>hi E >>= fun h=>ofO (fSlS x l h)
theorem sf_slS {e:Expr} {lo hi:Option Expr} {p2 pos:Pos} {m:EV} {ml mh:Ev->R (Option Int)} (he:SE X G e m) (hl:SO X G lo ml) (hh:SO X G hi mh):SF X G (.Subscript e (.Slice lo hi none p2) pos) (eSlS m ml mh) :=
 (pe_slice sl_str he hl hh).imp fun σ H Q z0=>z0.elim fun E z0=>z0.elim fun hr f=>⟨E,hr,(Fin.bind f).mono fun d p v H1 s1 z1=>⟨E,hr.same s1,(Fin.bind p).mono fun l p H2 s2=>⟨E,hr.same (s1.trans s2),(Fin.bind p).mono fun h p H3 s3=>by
  obtain ⟨d',e',p⟩:=Fin.of p
  cases d with
  | str z =>
   simp only [fSlS] at e'
   split at e'
   ·rename_i hn
    cases e'
    exact ⟨z,z1.str,by rw [sizeLine_eq]; omega,p _ _ (s1.trans (s2.trans s3)) (by unfold Rp; rfl)⟩
   ·cases e'
  | _=>cases e'⟩⟩⟩
end
end M

set_option linter.all false
namespace Ma
noncomputable abbrev Sq:=Int × Int
noncomputable def Slt (a b:Sq):Prop:=a.1 < b.1\/(a.1=b.1/\a.2 < b.2)
theorem Slt.irr {a:Sq}:¬ Slt a a:=by unfold Slt; omega
theorem Slt.trans {a b c:Sq}:Slt a b->Slt b c->Slt a c:=by unfold Slt; omega
theorem Slt.tri {a b:Sq}:Slt a b\/a=b\/Slt b a:=by
 unfold Slt
 rcases a with ⟨a1,a2⟩; rcases b with ⟨b1,b2⟩
 simp only [Prod.mk.injEq]; omega
instance (a b:Sq):Decidable (Slt a b):=by unfold Slt; exact inferInstance
theorem nodup_of_sorted {l:List Sq} (h:l.Pairwise Slt):l.Nodup:=h.imp fun {a b} h e=>by subst e; exact Slt.irr h
theorem nodup_len {α:Type} [DecidableEq α]:∀ {l1 l2:List α},l1.Nodup->(∀ x ∈ l1,x ∈ l2)->l1.length<=l2.length
 | [],_,_,_=>by simp
 | a :: l1,l2,h,s=>by
  rw [List.nodup_cons] at h
  have ha:=s a (by simp)
  have:=nodup_len (l2:=l2.erase a) h.2 fun x hx=>by
   have hne:x ≠ a:=fun e=>h.1 (by rw [<-e]; exact hx)
   exact (List.mem_erase_of_ne hne).2 (s x (List.mem_cons_of_mem _ hx))
  rw [List.length_erase_of_mem ha] at this
  have:=List.length_pos_of_mem ha
  simp; omega
noncomputable def OnB (s:Sq):Prop:=0<=s.1/\s.1 < 8/\0<=s.2/\s.2 < 8
instance (s:Sq):Decidable (OnB s):=by unfold OnB; exact inferInstance
structure IsFloor (F:List Sq):Prop where
 ord:F.Pairwise Slt
 on:∀ s ∈ F,OnB s
noncomputable def InR (q:Sq):Prop:=-1<=q.1/\q.1<=8/\-1<=q.2/\q.2<=8
instance (s:Sq):Decidable (InR s):=by unfold InR; exact inferInstance
noncomputable def Near (p q:Sq):Prop:=p.1 - 1<=q.1/\q.1<=p.1 + 1/\p.2 - 1<=q.2/\q.2<=p.2 + 1/\InR q
inductive Reach (F:List Sq):Sq->Prop
 | base:Reach F (-1,-1)
 | step {p q:Sq}:Reach F p->Near p q->q ∉ F->Reach F q
structure Closed (F L:List Sq):Prop where
 st:(-1,-1) ∈ L
 ok:∀ x ∈ L,Reach F x
 cl:∀ p ∈ L,∀ q,Near p q->q ∉ F->q ∈ L
end Ma

set_option Elab.async false
set_option linter.all false
namespace M
open PySem PySem.Spec PyProof.Rows L2 Ma
@[simp] theorem R_pure {α:Type} (a:α):(pure a:R α)=.ok a:=rfl
@[simp] theorem xSeq_e (m n:EX) (E:Ev):xSeq m n E=(m E >>= fun o=>match o with | .nx E'=>n E' | o=>.ok o):=rfl
@[simp] theorem xNil_e (E:Ev):xNil E=.ok (.nx E):=rfl
@[simp] theorem xRet_e (m:EV) (E:Ev):xRet m E=(m E >>= fun d=>.ok (.rt d)):=rfl
@[simp] theorem xRetN_e (E:Ev):xRetN E=.ok (.rt .non):=rfl
@[simp] theorem xSet_e (i:Nat) (m:EV) (E:Ev):xSet i m E=(m E >>= fun d=>.ok (.nx (E.set i (.fz d)))):=rfl
@[simp] theorem xOwn_e (i:Nat) (m:EV) (E:Ev):xOwn i m E=(m E >>= fun d=>.ok (.nx (E.set i (.ow d)))):=rfl
@[simp] theorem xDo_e (m:EV) (E:Ev):xDo m E=(m E >>= fun _=>.ok (.nx E)):=rfl
@[simp] theorem xIf_e (t:Ev->R Bool) (a b:EX) (E:Ev):xIf t a b E=(t E >>= fun k=>if k=true then a E else b E):=rfl
@[simp] theorem xFrz_e (i:Nat) (m:EX) (E:Ev):xFrz i m E=m (frz i E):=rfl
@[simp] theorem xApp_e (i:Nat) (m:EV) (E:Ev):xApp i m E=(match E[i]? with
 | some (.ow (.lst ds))=>m E >>= fun d=>if ds.length < 1000000 then .ok (.nx (E.set i (.ow (.lst (ds++[d]))))) else .no
 | _=>.no):=rfl
@[simp] theorem xExt_e (i:Nat) (m:EV) (E:Ev):xExt i m E=(match E[i]? with
 | some (.ow (.lst ds))=>m E >>= fun d=>match d with
  | .lst es=>if ds.length + es.length < 1000000 then .ok (.nx (E.set i (.ow (.lst (ds++es))))) else .no
  | _=>.no
 | _=>.no):=rfl
@[simp] theorem xPop_e (i j:Nat) (E:Ev):xPop i j E=(match E[i]? with
 | some (.ow (.lst ds))=>match ds[ds.length - 1]? with
  | some d=>.ok (.nx ((E.set i (.ow (.lst ds.dropLast))).set j (.fz d)))
  | none=>.no
 | _=>.no):=rfl
@[simp] theorem xDput_e (i:Nat) (mk mv:EV) (E:Ev):xDput i mk mv E=(match E[i]? with
 | some (.ow (.dic kvs))=>mv E >>= fun d=>mk E >>= fun k=>match keyOf k with
  | some ks=>if kvs.length < 1000000 then .ok (.nx (E.set i (.ow (.dic (dput kvs ks d))))) else .no
  | none=>.no
 | _=>.no):=rfl
@[simp] theorem xFor_e (mi:Ev->R (List D)) (set:D->Ev->Option Ev) (b:EX) (E:Ev):xFor mi set b E=(mi E >>= fun ds=>forL set b ds E):=rfl
@[simp] theorem vE_fz (i:Nat) (E:Ev) (d:D) (h:E[i]?=some (.fz d)):vE i E=.ok d:=by unfold vE; rw [h]
@[simp] theorem vE_ow (i:Nat) (E:Ev) (d:D) (h:E[i]?=some (.ow d)):vE i E=.ok d:=by unfold vE; rw [h]
@[simp] theorem vF_fz (i:Nat) (E:Ev) (d:D) (h:E[i]?=some (.fz d)):vF i E=.ok d:=by unfold vF; rw [h]
@[simp] theorem kE_e (d:D) (E:Ev):kE d E=.ok d:=rfl
@[simp] theorem e1_e (f:D->Option D) (a:EV) (E:Ev):e1 f a E=(a E >>= fun x=>ofO (f x)):=rfl
@[simp] theorem e2_e (f:D->D->Option D) (a b:EV) (E:Ev):e2 f a b E=(a E >>= fun x=>b E >>= fun y=>ofO (f x y)):=rfl
@[simp] theorem aNil_e (E:Ev):aNil E=.ok []:=rfl
@[simp] theorem aCons_e (a:EV) (r:Ev->R (List D)) (E:Ev):aCons a r E=(a E >>= fun x=>r E >>= fun xs=>.ok (x :: xs)):=rfl
noncomputable def unB:D->R Bool
 | .bl b=>.ok b
 | _=>.no
noncomputable def andB (x:D) (y:R D):R D:=match x with
 | .bl true=>y
 | .bl false=>.ok (.bl false)
 | _=>.no
noncomputable def orB (x:D) (y:R D):R D:=match x with
 | .bl true=>.ok (.bl true)
 | .bl false=>y
 | _=>.no
@[simp] theorem unB_b (b:Bool):unB (.bl b)=.ok b:=rfl
@[simp] theorem andB_t (y:R D):andB (.bl true) y=y:=rfl
@[simp] theorem andB_f (y:R D):andB (.bl false) y=.ok (.bl false):=rfl
@[simp] theorem orB_t (y:R D):orB (.bl true) y=.ok (.bl true):=rfl
@[simp] theorem orB_f (y:R D):orB (.bl false) y=y:=rfl
@[simp] theorem andB_bb (b c:Bool):andB (.bl b) (.ok (.bl c))=.ok (.bl (b && c)):=by cases b<;>rfl
@[simp] theorem orB_bb (b c:Bool):orB (.bl b) (.ok (.bl c))=.ok (.bl (b || c)):=by cases b<;>rfl
@[simp] theorem ite_andB (b c:Bool):(if b=true then R.ok c else R.ok false)=R.ok (b && c):=by cases b<;>rfl
@[simp] theorem ite_orB (b c:Bool):(if b=true then R.ok true else R.ok c)=R.ok (b || c):=by cases b<;>rfl
@[simp] theorem ite_andP (p:Prop) [Decidable p] (c:Bool):(if p then R.ok c else R.ok false)=R.ok (decide p && c):=by by_cases h:p<;>simp [h]
@[simp] theorem ite_orP (p:Prop) [Decidable p] (c:Bool):(if p then R.ok true else R.ok c)=R.ok (decide p || c):=by by_cases h:p<;>simp [h]
@[simp] theorem tstB_e (a:EV) (E:Ev):tstB a E=(a E >>= unB):=by
 unfold tstB; congr 1
@[simp] theorem tstV_e (a:EV) (E:Ev):tstV a E=(a E >>= fun d=>ofO (truD d)):=rfl
@[simp] theorem bAnd_e (t u:Ev->R Bool) (E:Ev):bAnd t u E=(t E >>= fun k=>if k=true then u E else .ok false):=rfl
@[simp] theorem bOr_e (t u:Ev->R Bool) (E:Ev):bOr t u E=(t E >>= fun k=>if k=true then .ok true else u E):=rfl
@[simp] theorem bNot_e (t:Ev->R Bool) (E:Ev):bNot t E=(t E >>= fun k=>.ok (!k)):=rfl
@[simp] theorem eAnd_e (t u:EV) (E:Ev):eAnd t u E=(t E >>= fun d=>andB d (u E)):=rfl
@[simp] theorem eOr_e (t u:EV) (E:Ev):eOr t u E=(t E >>= fun d=>orB d (u E)):=rfl
noncomputable def notB:D->R D
 | .bl k=>.ok (.bl (!k))
 | _=>.no
@[simp] theorem notB_b (b:Bool):notB (.bl b)=.ok (.bl (!b)):=rfl
@[simp] theorem eNot_e (t:EV) (E:Ev):eNot t E=(t E >>= notB):=by
 unfold eNot; congr 1
@[simp] theorem eIf_e (t:Ev->R Bool) (a b:EV) (E:Ev):eIf t a b E=(t E >>= fun k=>if k=true then a E else b E):=rfl
@[simp] theorem eTup_e (t:Ev->R (List D)) (E:Ev):eTup t E=(t E >>= fun ds=>if ds.length<=1000 then .ok (.tup ds) else .no):=rfl
@[simp] theorem eLst_e (t:Ev->R (List D)) (E:Ev):eLst t E=(t E >>= fun ds=>if ds.length<=1000 then .ok (.lst ds) else .no):=rfl
@[simp] theorem eSl_e (a:EV) (lo hi:Ev->R (Option Int)) (E:Ev):eSl a lo hi E=(a E >>= fun x=>lo E >>= fun l=>hi E >>= fun h=>ofO (fSl x l h)):=rfl
@[simp] theorem oPart_e (m:EV) (E:Ev):oPart m E=(m E >>= fun d=>match d with | .int i=>.ok (some i) | _=>.no):=rfl
@[simp] theorem oNone_e (E:Ev):oNone E=.ok none:=rfl
@[simp] theorem eCh_e (f g:D->D->Option D) (ma mb mc:EV) (E:Ev):eCh f g ma mb mc E=(ma E >>= fun x=>mb E >>= fun y=>ofO (f x y) >>= fun t=>match t with
 | .bl true=>mc E >>= fun z=>ofO (g y z)
 | .bl false=>.ok (.bl false)
 | _=>.no):=rfl
@[simp] theorem eD1_e (mk mv:EV) (E:Ev):eD1 mk mv E=(mk E >>= fun k=>mv E >>= fun v=>match keyOf k with
 | some ks=>if flatB v=true then .ok (.dic [(ks,v)]) else .no
 | none=>.no):=rfl
@[simp] theorem eCall_e (n:Nat) (dn:List D->R D) (ma:Ev->R (List D)) (E:Ev):eCall n dn ma E=(ma E >>= fun ds=>if ds.length=n then dn ds else .no):=rfl
@[simp] theorem eLoose_e (i:Nat) (m:EV) (E:Ev):eLoose i m E=(m (frz i E) >>= flat):=rfl
@[simp] theorem iD_e (m:EV) (E:Ev):iD m E=(m E >>= fun d=>match d with | .lst ds=>.ok ds | _=>.no):=rfl
@[simp] theorem iT_e (m:EV) (E:Ev):iT m E=(m E >>= fun d=>match d with | .tup ds=>.ok ds | _=>.no):=rfl
noncomputable def rng (a b:Int):List Int:=(List.range (b - a).toNat).map fun (k:Nat)=>a + (k:Int)
theorem mem_rng {a b x:Int}:x ∈ rng a b ↔ a<=x/\x < b:=by
 unfold rng
 simp only [List.mem_map,List.mem_range]
 constructor
 ·rintro ⟨k,hk,rfl⟩; omega
 ·rintro ⟨h1,h2⟩; exact ⟨(x - a).toNat,by omega,by omega⟩
theorem rng_length (a b:Int):(rng a b).length=(b - a).toNat:=by simp [rng]
theorem rng_pairwise (a b:Int):(rng a b).Pairwise (· < ·):=by
 unfold rng
 rw [List.pairwise_map]
 exact List.pairwise_lt_range.imp fun h=>by omega
@[simp] theorem iR1_e (m:EV) (E:Ev):iR1 m E=(m E >>= fun d=>match d with
 | .int n=>if n.natAbs < 1000000 then .ok ((rng 0 n).map D.int) else .no
 | _=>.no):=by
 unfold iR1 rng
 congr 1
 funext d
 cases d<;>simp
 rfl
@[simp] theorem iR2_e (m n:EV) (E:Ev):iR2 m n E=(m E >>= fun d=>n E >>= fun e=>match d,e with
 | .int a,.int b=>if a.natAbs < 1000000/\b.natAbs < 1000000 then .ok ((rng a b).map D.int) else .no
 | _,_=>.no):=by
 unfold iR2 rng
 congr 1
 funext d
 congr 1
 funext e
 cases d<;>cases e<;>simp
 rfl
@[simp] theorem iZ_e (ma mb:EV) (E:Ev):iZ ma mb E=(ma E >>= fun x=>mb E >>= fun y=>match x,y with
 | .lst xs,.lst ys=>.ok (List.zipWith (fun a b=>D.tup [a,b]) xs ys)
 | _,_=>.no):=rfl
@[simp] theorem gN_e (i:Nat) (d:D) (E:Ev):gN i d E=some (E.set i (.fz d)):=rfl
@[simp] theorem gT_e (i j:Nat) (a b:D) (E:Ev):gT i j (.tup [a,b]) E=some ((E.set i (.fz a)).set j (.fz b)):=rfl
@[simp] theorem tTrue_e (E:Ev):tTrue E=.ok true:=rfl
@[simp] theorem den_e (n:Nat) (m:EX) (ds:List D):den n m ds=ended (m (ds.map Sl.fz++List.replicate (n - ds.length) .un)):=rfl
@[simp] theorem ended_rt (d:D):ended (.ok (.rt d))=.ok d:=rfl
@[simp] theorem ended_nx (E:Ev):ended (.ok (.nx E))=.ok .non:=rfl
@[simp] theorem flat_bl (b:Bool):flat (.bl b)=.ok (.bl b):=rfl
@[simp] theorem flat_int (b:Int):flat (.int b)=.ok (.int b):=rfl
@[simp] theorem flat_non:flat .non=.ok .non:=rfl
theorem frz_e (i:Nat) (E:Ev):frz i E=(match E[i]? with | some (.ow d)=>E.set i (.fz d) | _=>E):=by
 unfold frz; rfl
@[simp] theorem fAdd_i (a b:Int):fAdd (.int a) (.int b)=some (.int (a + b)):=rfl
@[simp] theorem fSub_i (a b:Int):fSub (.int a) (.int b)=some (.int (a - b)):=rfl
@[simp] theorem fNeg_i (a:Int):fNeg (.int a)=some (.int (-a)):=rfl
@[simp] theorem fMul_i (a b:Int):fMul (.int a) (.int b)=if a.natAbs < 2 ^ 63\/b.natAbs < 2 ^ 63 then some (.int (a * b)) else none:=rfl
@[simp] theorem fDiv_i (a b:Int):fDiv (.int a) (.int b)=if 0 < b/\b < 1073741824 then some (.int (a / b)) else none:=rfl
@[simp] theorem fMod_i (a b:Int):fMod (.int a) (.int b)=if 0 < b then some (.int (a % b)) else none:=rfl
@[simp] theorem fLt_i (a b:Int):fLt (.int a) (.int b)=some (.bl (decide (a < b))):=rfl
@[simp] theorem fLtI_i (a b:Int):fLtI (.int a) (.int b)=some (.bl (decide (a < b))):=rfl
@[simp] theorem fLe_i (a b:Int):fLe (.int a) (.int b)=some (.bl (decide (a<=b))):=rfl
@[simp] theorem fGt_i (a b:Int):fGt (.int a) (.int b)=some (.bl (decide (b < a))):=rfl
@[simp] theorem fGe_i (a b:Int):fGe (.int a) (.int b)=some (.bl (decide (b<=a))):=rfl
@[simp] theorem fMax_i (a b:Int):fMax (.int a) (.int b)=some (.int (if b > a then b else a)):=rfl
@[simp] theorem fMin_i (a b:Int):fMin (.int a) (.int b)=some (.int (if b < a then b else a)):=rfl
theorem beq_dec {α:Type} [DecidableEq α] (a b:α):(a == b)=decide (a=b):=by by_cases h:a=b<;>simp [h]
@[simp] theorem fEq_i (a b:Int):fEq (.int a) (.int b)=some (.bl (decide (a=b))):=by rw [<-beq_dec]; rfl
@[simp] theorem fNe_i (a b:Int):fNe (.int a) (.int b)=some (.bl (!(decide (a=b)))):=by rw [<-beq_dec]; rfl
@[simp] theorem fEq_b (a b:Bool):fEq (.bl a) (.bl b)=some (.bl (a == b)):=rfl
@[simp] theorem fNe_b (a b:Bool):fNe (.bl a) (.bl b)=some (.bl (!(a == b))):=rfl
@[simp] theorem fLen_l (ds:List D):fLen (.lst ds)=some (.int ds.length):=rfl
@[simp] theorem fLen_t (ds:List D):fLen (.tup ds)=some (.int ds.length):=rfl
@[simp] theorem fLen_d (ds:List (List Int × D)):fLen (.dic ds)=some (.int ds.length):=rfl
@[simp] theorem fLen_s (ds:List Int):fLen (.scr ds)=some (.int ds.length):=rfl
@[simp] theorem fList_l (ds:List D):fList (.lst ds)=some (.lst ds):=rfl
@[simp] theorem truD_b (b:Bool):truD (.bl b)=some b:=rfl
@[simp] theorem truD_l (ds:List D):truD (.lst ds)=some (!ds.isEmpty):=rfl
noncomputable abbrev dS (s:Sq):D:=.tup [.int s.1,.int s.2]
noncomputable abbrev dL (L:List Sq):D:=.lst (L.map dS)
noncomputable abbrev dD (L:List Sq):D:=.dic (L.map fun s=>([s.1,s.2],.bl true))
theorem atI_pos {α:Type} {xs:List α} {i:Int} (h0:0<=i) (h1:i < xs.length):atI xs i=xs[i.toNat]?:=by
 unfold atI ixN
 rw [if_pos h0,if_pos h1]; rfl
theorem atI_nat {α:Type} {xs:List α} {i:Nat} {x:α} (h:xs[i]?=some x):atI xs (i:Int)=some x:=by
 have h1:i < xs.length:=(List.getElem?_eq_some_iff.mp h).1
 rw [atI_pos (by omega) (by omega)]
 simpa using h
@[simp] theorem fIx_0 (a:D) (r:List D):fIx (.tup (a :: r)) (.int 0)=some a:=atI_nat (i:=0) rfl
@[simp] theorem fIx_1 (a b:D) (r:List D):fIx (.tup (a :: b :: r)) (.int 1)=some b:=atI_nat (i:=1) rfl
@[simp] theorem fIx_2 (a b c:D) (r:List D):fIx (.tup (a :: b :: c :: r)) (.int 2)=some c:=atI_nat (i:=2) rfl
@[simp] theorem atI_0 {α:Type} (a:α) (r:List α):atI (a :: r) 0=some a:=atI_nat (i:=0) rfl
@[simp] theorem atI_1 {α:Type} (a b:α) (r:List α):atI (a :: b :: r) 1=some b:=atI_nat (i:=1) rfl
@[simp] theorem atI_2 {α:Type} (a b c:α) (r:List α):atI (a :: b :: c :: r) 2=some c:=atI_nat (i:=2) rfl
@[simp] theorem fIx_l (ds:List D) (i:Int):fIx (.lst ds) (.int i)=atI ds i:=rfl
noncomputable def Goes (r:R Out) (P:Ev->Prop):Prop:=match r with
 | .ok (.nx E)=>P E
 | .ok (.ct E)=>P E
 | _=>False
@[simp] theorem Goes_nx (E:Ev) (P:Ev->Prop):Goes (.ok (.nx E)) P=P E:=rfl
@[simp] theorem Goes_ct (E:Ev) (P:Ev->Prop):Goes (.ok (.ct E)) P=P E:=rfl
theorem goes_of {r:R Out} {E:Ev} {P:Ev->Prop} (h:r=.ok (.nx E)) (hp:P E):Goes r P:=by rw [h]; exact hp
section
variable {set:D->Ev->Option Ev} {b:EX} {c:Ev->R Bool}
theorem forL_cons {d:D} {ds:List D} {E E1:Ev} {P:Ev->Prop} (h1:set d E=some E1) (h2:Goes (b E1) P):∃ E2,P E2/\forL set b (d :: ds) E=forL set b ds E2:=by
 conv=>rhs; intro E2; rhs; lhs; unfold forL
 rw [h1]
 unfold Goes at h2
 split at h2
 ·rename_i E2 e; exact ⟨E2,h2,by dsimp only; rw [e]; rfl⟩
 ·rename_i E2 e; exact ⟨E2,h2,by dsimp only; rw [e]; rfl⟩
 ·exact h2.elim
theorem forL_fold {α S:Type} (f:α->D) (st:S->α->S) (I:S->Ev->Prop):∀ (xs:List α) (s:S) (E:Ev),(∀ s E,I s E->∀ x ∈ xs,∃ E1,set (f x) E=some E1/\Goes (b E1) (I (st s x)))->I s E →
  ∃ E',forL set b (xs.map f) E=.ok (.nx E')/\I (xs.foldl st s) E'
 | [],s,E,_,h0=>⟨E,rfl,h0⟩
 | x :: r,s,E,h,h0=>by
  obtain ⟨E1,e1,e2⟩:=h s E h0 x (by simp)
  obtain ⟨E2,i2,e3⟩:=forL_cons (ds:=r.map f) e1 e2
  obtain ⟨E',e4,e5⟩:=forL_fold f st I r (st s x) E2 (fun s E hE y hy=>h s E hE y (List.mem_cons_of_mem _ hy)) i2
  exact ⟨E',by rw [List.map_cons,e3]; exact e4,e5⟩
theorem forL_pre {α:Type} (f:α->D) (I:List α->Ev->Prop) (xs:List α) (h:∀ pre x post,xs=pre++x :: post->∀ E,I pre E->∃ E1,set (f x) E=some E1/\Goes (b E1) (I (pre++[x]))) :
  ∀ (E:Ev),I [] E->∃ E',forL set b (xs.map f) E=.ok (.nx E')/\I xs E':=by
 have key:∀ (post pre:List α) (E:Ev),xs=pre++post->I pre E->∃ E',forL set b (post.map f) E=.ok (.nx E')/\I xs E':=by
  intro post
  induction post with
  | nil=>intro pre E e h0; exact ⟨E,rfl,by rw [e,List.append_nil]; exact h0⟩
  | cons x r ih =>
   intro pre E e h0
   obtain ⟨E1,e1,e2⟩:=h pre x r e E h0
   obtain ⟨E2,i2,e3⟩:=forL_cons (ds:=r.map f) e1 e2
   obtain ⟨E',e4,e5⟩:=ih (pre++[x]) E2 (by rw [e]; simp) i2
   exact ⟨E',by rw [List.map_cons,e3]; exact e4,e5⟩
 exact fun E h0=>key xs [] E rfl h0
noncomputable def foldX {α S:Type} (st:S->α->D ⊕ S):List α->S->D ⊕ S
 | [],s=>.inr s
 | x :: r,s=>match st s x with
  | .inl d=>.inl d
  | .inr s'=>foldX st r s'
end
theorem compL_ok {α:Type} {set:D->Ev->Option Ev} {mt:Ev->R Bool} {me:EV} {E:Ev} (f:α->D) (p:α->Bool) (g:α->D):∀ (xs:List α),(∀ x ∈ xs,∃ E1,set (f x) E=some E1/\mt E1=.ok (p x)/\(p x=true->me E1=.ok (g x))) →
  compL set mt me E (xs.map f)=.ok ((xs.filter p).map g)
 | [],_=>rfl
 | x :: r,h=>by
  obtain ⟨E1,e1,e2,e3⟩:=h x (by simp)
  rw [List.map_cons]
  unfold compL
  rw [e1]
  dsimp only
  rw [e2]
  have ih:=compL_ok f p g r fun y hy=>h y (List.mem_cons_of_mem _ hy)
  by_cases hp:p x=true
  ·rw [hp,List.filter_cons_of_pos hp,List.map_cons]
   simp only [R.ok_bind,if_true]
   rw [e3 hp,ih]; rfl
  ·rw [List.filter_cons_of_neg hp]
   have:p x=false:=by simpa using hp
   rw [this]
   simp only [R.ok_bind,Bool.false_eq_true,if_false]
   exact ih
theorem compL_map {α:Type} {set:D->Ev->Option Ev} {me:EV} {E:Ev} (f:α->D) (g:α->D) (xs:List α) (h:∀ x ∈ xs,∃ E1,set (f x) E=some E1/\me E1=.ok (g x)) :
  compL set tTrue me E (xs.map f)=.ok (xs.map g):=by
 rw [compL_ok f (fun _=>true) g xs fun x hx=>by obtain ⟨E1,e1,e2⟩:=h x hx; exact ⟨E1,e1,rfl,fun _=>e2⟩,List.filter_eq_self.2 (by simp)]
@[simp] theorem eComp_e (ts:List Nat) (set:D->Ev->Option Ev) (mi:Ev->R (List D)) (mt:Ev->R Bool) (me:EV) (E:Ev):eComp ts set mi mt me E=(if noOw ts E=true then (mi E >>= fun ds=>if ds.length<=1000000 then (compL set mt me (clr ts E) ds >>= fun ys=>.ok (.lst ys)) else .no) else .no):=rfl
end M

set_option Elab.async false
set_option linter.all false
namespace M
open PySem PySem.Spec PyProof.Rows L2 Ma
theorem fLt_S (a b:Sq):fLt (dS a) (dS b)=some (.bl (decide (Slt a b))):=by
 show (some (D.bl (HT.lexLt [a.1,a.2] [b.1,b.2])))=_
 simp only [HT.lexLt_cons,HT.lexLt_nil_nil]
 unfold Slt
 by_cases h:a.1=b.1
 ·simp [h]; omega
 ·simp [h]
theorem fGe_S (a b:Sq):fGe (dS a) (dS b)=some (.bl (!(decide (Slt a b)))):=by
 show (some (D.bl (!(HT.lexLt [a.1,a.2] [b.1,b.2]))))=_
 simp only [HT.lexLt_cons,HT.lexLt_nil_nil]
 unfold Slt
 by_cases h:a.1=b.1
 ·simp [h]; omega
 ·simp [h]
theorem cut_from (ds:List D) (k:Nat):cutD ds (some (k:Int)) none=ds.drop k:=by
 unfold cutD
 rw [HT.sIx_nat,HT.sIx_none]
 by_cases h:k<=ds.length
 ·rw [Nat.min_eq_left h,List.take_of_length_le (by simp)]
 ·rw [Nat.min_eq_right (by omega),List.drop_of_length_le (Nat.le_refl _),List.drop_of_length_le (by omega)]; simp
@[simp] theorem fSl_1 (ds:List D):fSl (.lst ds) (some 1) none=some (.lst (ds.drop 1)):=by
 show some (D.lst (cutD ds (some ((1:Nat):Int)) none))=_
 rw [cut_from]
theorem zip_map2 (F G:List Sq):List.zipWith (fun a b=>D.tup [a,b]) (F.map dS) (G.map dS)=(F.zip G).map fun p=>D.tup [dS p.1,dS p.2]:=by
 rw [List.zipWith_map,List.zip,List.map_zipWith]
@[simp] theorem eqb_S (a b:Sq):eqb (dS a) (dS b)=decide (a=b):=by
 rcases a with ⟨a1,a2⟩; rcases b with ⟨b1,b2⟩
 simp only [eqb,eqbs,Prod.mk.injEq,Bool.and_true]
 by_cases h:a1=b1<;>by_cases h':a2=b2<;>simp [h,h']
@[simp] theorem pl3_S (a:Sq):pl 3 (dS a)=true:=rfl
@[simp] theorem pl4_S (a:Sq):pl 4 (dS a)=true:=rfl
theorem pls3_S:∀ (L:List Sq),pls 3 (L.map dS)=true
 | []=>rfl
 | a :: r=>by
  have:=pls3_S r
  simp [pls,this]
theorem any_S (q:Sq):∀ (L:List Sq),((L.map dS).any fun y=>eqb y (dS q))=decide (q ∈ L)
 | []=>rfl
 | a :: r=>by
  rw [List.map_cons,List.any_cons,any_S q r,eqb_S]
  by_cases h:a=q
  ·simp [h]
  ·have h':¬ q=a:=fun e=>h e.symm
   simp [h,h']
theorem fIn_S (q:Sq) (L:List Sq):fIn (dS q) (dL L)=some (.bl (decide (q ∈ L))):=by
 show (if (pl 3 (dS q) && pls 3 (L.map dS))=true then some (D.bl ((L.map dS).any fun y=>eqb y (dS q))) else none)=_
 rw [pls3_S,any_S]; rfl
theorem fNotIn_S (q:Sq) (L:List Sq):fNotIn (dS q) (dL L)=some (.bl (!(decide (q ∈ L)))):=by
 show (if (pl 3 (dS q) && pls 3 (L.map dS))=true then some (D.bl (!((L.map dS).any fun y=>eqb y (dS q)))) else none)=_
 rw [pls3_S,any_S]; rfl
theorem keyOf_S (q:Sq):keyOf (dS q)=some [q.1,q.2]:=rfl
theorem eqbs_L:∀ (L M:List Sq),eqbs (L.map dS) (M.map dS)=decide (L=M)
 | [],[]=>rfl
 | [],b :: r=>by simp [eqbs]
 | a :: r,[]=>by simp [eqbs]
 | a :: r,b :: s=>by
  rw [List.map_cons,List.map_cons,eqbs,eqb_S,eqbs_L r s]
  by_cases h:a=b<;>by_cases h':r=s<;>simp [h,h']
theorem pl4_L (L:List Sq):pl 4 (dL L)=true:=pls3_S L
@[simp] theorem fEq_L (L M:List Sq):fEq (dL L) (dL M)=some (.bl (decide (L=M))):=by
 show (if (pl 4 (dL L) && pl 4 (dL M))=true then some (D.bl (eqbs (L.map dS) (M.map dS))) else none)=_
 rw [pl4_L,pl4_L,eqbs_L]; rfl
@[simp] theorem fNe_L (L M:List Sq):fNe (dL L) (dL M)=some (.bl (!(decide (L=M)))):=by
 show (if (pl 4 (dL L) && pl 4 (dL M))=true then some (D.bl (!(eqbs (L.map dS) (M.map dS)))) else none)=_
 rw [pl4_L,pl4_L,eqbs_L]; rfl
theorem fEq_S (a b:Sq):fEq (dS a) (dS b)=some (.bl (decide (a=b))):=by
 show (if (pl 4 (dS a) && pl 4 (dS b))=true then some (D.bl (eqb (dS a) (dS b))) else none)=_
 rw [eqb_S]; rfl
theorem fNe_S (a b:Sq):fNe (dS a) (dS b)=some (.bl (!(decide (a=b)))):=by
 show (if (pl 4 (dS a) && pl 4 (dS b))=true then some (D.bl (!(eqb (dS a) (dS b)))) else none)=_
 rw [eqb_S]; rfl
theorem dget_D (q:Sq):∀ (L:List Sq),(dget (L.map fun s=>([s.1,s.2],D.bl true)) [q.1,q.2]).isSome=decide (q ∈ L)
 | []=>rfl
 | a :: r=>by
  have ih:=dget_D q r
  rw [List.map_cons]
  unfold dget
  rcases a with ⟨a1,a2⟩; rcases q with ⟨q1,q2⟩
  by_cases h:a1=q1/\a2=q2
  ·obtain ⟨rfl,rfl⟩:=h; simp
  ·have h1:¬ ([a1,a2]=[q1,q2]):=fun e=>h (by simpa using e)
   have h2:¬ ((q1,q2)=(a1,a2)):=fun e=>h (by simp at e; exact ⟨e.1.symm,e.2.symm⟩)
   simp only [h1,if_false]
   rw [ih]
   simp only [List.mem_cons,h2,false_or]
theorem fDin_S (q:Sq) (L:List Sq):fDin (dS q) (dD L)=some (.bl (decide (q ∈ L))):=by
 show ((keyOf (dS q)).map fun ks=>D.bl (dget (L.map fun s=>([s.1,s.2],D.bl true)) ks).isSome)=_
 rw [keyOf_S,Option.map_some,dget_D]
theorem fDnotIn_S (q:Sq) (L:List Sq):fDnotIn (dS q) (dD L)=some (.bl (!(decide (q ∈ L)))):=by
 show ((keyOf (dS q)).map fun ks=>D.bl (!(dget (L.map fun s=>([s.1,s.2],D.bl true)) ks).isSome))=_
 rw [keyOf_S,Option.map_some,dget_D]
@[simp] theorem keyOf_2 (a b:Int):keyOf (.tup [.int a,.int b])=some [a,b]:=rfl
@[simp] theorem fLt_2 (a b c d:Int):fLt (.tup [.int a,.int b]) (.tup [.int c,.int d])=some (.bl (decide (Slt (a,b) (c,d)))):=fLt_S (a,b) (c,d)
@[simp] theorem fGe_2 (a b c d:Int):fGe (.tup [.int a,.int b]) (.tup [.int c,.int d])=some (.bl (!(decide (Slt (a,b) (c,d))))):=fGe_S (a,b) (c,d)
@[simp] theorem fEq_2 (a b c d:Int):fEq (.tup [.int a,.int b]) (.tup [.int c,.int d])=some (.bl (decide ((a,b)=(c,d)))):=fEq_S (a,b) (c,d)
@[simp] theorem fNe_2 (a b c d:Int):fNe (.tup [.int a,.int b]) (.tup [.int c,.int d])=some (.bl (!(decide ((a,b)=(c,d))))):=fNe_S (a,b) (c,d)
@[simp] theorem fIn_2 (a b:Int) (L:List Sq):fIn (.tup [.int a,.int b]) (dL L)=some (.bl (decide ((a,b) ∈ L))):=fIn_S (a,b) L
@[simp] theorem fNotIn_2 (a b:Int) (L:List Sq):fNotIn (.tup [.int a,.int b]) (dL L)=some (.bl (!(decide ((a,b) ∈ L)))):=fNotIn_S (a,b) L
@[simp] theorem fDin_2 (a b:Int) (L:List Sq):fDin (.tup [.int a,.int b]) (dD L)=some (.bl (decide ((a,b) ∈ L))):=fDin_S (a,b) L
@[simp] theorem fDnotIn_2 (a b:Int) (L:List Sq):fDnotIn (.tup [.int a,.int b]) (dD L)=some (.bl (!(decide ((a,b) ∈ L)))):=fDnotIn_S (a,b) L
theorem dput_D (q:Sq) (L:List Sq) (h:q ∉ L):dput (L.map fun s=>([s.1,s.2],D.bl true)) [q.1,q.2] (.bl true)=(L++[q]).map fun s=>([s.1,s.2],D.bl true):=by
 unfold dput
 have:((L.map fun s=>([s.1,s.2],D.bl true)).any fun kv=>decide (kv.1=[q.1,q.2]))=false:=by
  rw [List.any_eq_false]
  intro x hx
  obtain ⟨s,hs,rfl⟩:=List.mem_map.mp hx
  simp only [decide_eq_true_eq]
  intro e
  apply h
  have:s=q:=by
   rcases s with ⟨s1,s2⟩; rcases q with ⟨q1,q2⟩
   simpa using e
  rw [<-this]; exact hs
 rw [this]
 simp
end M

set_option Elab.async false
set_option linter.all false
set_option maxRecDepth 100000
namespace M
open PySem PySem.Spec PyProof.Rows L2 Ma
theorem pairs_lt {F:List Sq} (h:F.Pairwise Slt):∀ p ∈ F.zip (F.drop 1),Slt p.1 p.2:=by
 intro p hp
 obtain ⟨i,hi,e⟩:=List.mem_iff_getElem.mp hp
 rw [List.pairwise_iff_getElem] at h
 simp at hi
 have:=h i (i + 1) (by omega) (by omega) (by omega)
 rw [<-e]
 simp only [List.getElem_zip,List.getElem_drop,Nat.add_comm 1 i]
 exact this
noncomputable def grid (a b c d:Int):List Sq:=(rng a b).flatMap fun r=>(rng c d).map fun k=>(r,k)
theorem mem_grid {a b c d:Int} {q:Sq}:q ∈ grid a b c d ↔ a<=q.1/\q.1 < b/\c<=q.2/\q.2 < d:=by
 unfold grid
 simp only [List.mem_flatMap,List.mem_map,mem_rng]
 constructor
 ·rintro ⟨r,h,k,h',rfl⟩; exact ⟨h.1,h.2,h'.1,h'.2⟩
 ·rintro ⟨h1,h2,h3,h4⟩; exact ⟨q.1,⟨h1,h2⟩,q.2,⟨h3,h4⟩,rfl⟩
theorem grid_len_le (a b c d:Int):(grid a b c d).length=(b - a).toNat * (d - c).toNat:=by
 unfold grid
 rw [List.length_flatMap]
 simp only [List.length_map,rng_length,List.map_const',List.sum_replicate_nat]
structure Dfs (F R W:List Sq):Prop where
 nd:R.Nodup
 st:(-1,-1) ∈ R
 ok:∀ x ∈ R,Reach F x
 wr:∀ x ∈ W,x ∈ R
 wn:W.Nodup
 cl:∀ p ∈ R,p ∉ W->∀ q,Near p q->q ∉ F->q ∈ R
noncomputable def rnd (q:Sq) (R:List Sq):Bool:=(rng (q.1 - 1) (q.1 + 2)).any fun r=>(rng (q.2 - 1) (q.2 + 2)).any fun c=>decide ((r,c) ∈ R)
structure Grow (F R:List Sq):Prop where
 nd:R.Nodup
 st:(-1,-1) ∈ R
 ok:∀ x ∈ R,Reach F x
noncomputable def outs (F:List Sq):List Sq:=(grid (-1) 9 (-1) 9).filter fun q=>!(decide (q ∈ F))
@[simp] theorem fAdd_l (a b:List D):fAdd (.lst a) (.lst b)=if a.length + b.length<=1000000 then some (.lst (a++b)) else none:=rfl
theorem goes_mk {r:R Out} {E:Ev} {P:Ev->Prop} (hp:P E) (h:r=.ok (.nx E)):Goes r P:=by rw [h]; exact hp
noncomputable def rows (pre:List Int):List Sq:=pre.flatMap fun r=>(rng (-1) 9).map fun c=>(r,c)
noncomputable def four (F:List Sq) (s:Sq):Bool:=decide ((s.1 - 1,s.2 - 1) ∈ F) && (decide ((s.1 - 1,s.2) ∈ F) && (decide ((s.1,s.2 - 1) ∈ F) && decide (s ∈ F)))
theorem rng_pre {a b:Int} {pre:List Int} {x:Int} {post:List Int} (e:rng a b=pre++x :: post):pre.length < (b - a).toNat:=by
 have:=congrArg List.length e
 rw [rng_length] at this
 simp at this; omega
end M

set_option Elab.async false
set_option linter.all false
set_option maxRecDepth 100000
namespace M
open PySem PySem.Spec PyProof.Rows L2 Ma
noncomputable abbrev Fl:=Int × Int × Int
noncomputable abbrev dF (f:Fl):D:=.tup [.int f.1,.int f.2.1,.int f.2.2]
noncomputable abbrev dFL (L:List Fl):D:=.lst (L.map dF)
noncomputable def pos2 (f:Fl):Sq:=(f.1,f.2.1)
noncomputable def mate (f:Fl):Sq:=if f.2.2=0 then (f.1,f.2.1 + 1) else (f.1 + 1,f.2.1)
noncomputable def cells (f:Fl):List Sq:=[pos2 f,mate f]
noncomputable def cover (L:List Fl):List Sq:=L.flatMap cells
structure Lay (F:List Sq) (L:List Fl):Prop where
 ord:L.Pairwise fun a b=>Slt (pos2 a) (pos2 b)
 way:∀ f ∈ L,f.2.2=0\/f.2.2=1
 cov:(cover L).Perm F
noncomputable def sk (s:Sq):List Int:=[s.1,s.2]
noncomputable def fk (f:Fl):List Int:=[f.1,f.2.1,f.2.2]
noncomputable def unsk (k:List Int):Sq:=(k.getD 0 0,k.getD 1 0)
noncomputable def unfk (k:List Int):Fl:=(k.getD 0 0,k.getD 1 0,k.getD 2 0)
noncomputable def sortS (S:List Sq):List Sq:=(sortK (S.map sk)).map unsk
noncomputable def sortF (S:List Fl):List Fl:=(sortK (S.map fk)).map unfk
theorem map_unsk {l:List (List Int)} {S:List Sq} (h:l.Perm (S.map sk)):(l.map unsk).map sk=l:=by
 rw [List.map_map]
 conv=>rhs; rw [<-List.map_id l]
 refine List.map_congr_left fun k hk=>?_
 obtain ⟨s,_,rfl⟩:=List.mem_map.mp (h.mem_iff.mp hk)
 rfl
theorem sortS_sk (S:List Sq):(sortS S).map sk=sortK (S.map sk):=map_unsk (sortK_perm _)
theorem sortS_perm (S:List Sq):(sortS S).Perm S:=by
 have h:=(sortK_perm (S.map sk)).map unsk
 have e:(S.map sk).map unsk=S:=by rw [List.map_map,show unsk ∘ sk=id from rfl,List.map_id]
 rw [e] at h; exact h
theorem lexLt_sk (a b:Sq):HT.lexLt (sk a) (sk b)=decide (Slt a b):=by
 unfold sk
 simp only [HT.lexLt_cons,HT.lexLt_nil_nil]
 unfold Slt
 by_cases h:a.1=b.1
 ·simp [h]; omega
 ·simp [h]
noncomputable def Flt (a b:Fl):Prop:=Slt (pos2 a) (pos2 b)\/(pos2 a=pos2 b/\a.2.2 < b.2.2)
instance (a b:Fl):Decidable (Flt a b):=by unfold Flt; exact inferInstance
theorem sortS_asc (S:List Sq):(sortS S).Pairwise fun a b=>¬ Slt b a:=by
 have h:=sortK_asc (S.map sk)
 rw [<-sortS_sk] at h
 unfold Asc at h
 rw [List.pairwise_map] at h
 exact h.imp fun {a b} h=>by rw [lexLt_sk] at h; simpa using h
theorem sortS_strict {S:List Sq} (h:S.Nodup):(sortS S).Pairwise Slt:=by
 have h1:=sortS_asc S
 have h2:(sortS S).Nodup:=(sortS_perm S).nodup_iff.mpr h
 have h3:=h1.and h2
 exact h3.imp fun {a b} hh=>by
  rcases Slt.tri (a:=a) (b:=b) with t | t | t
  ·exact t
  ·exact absurd t hh.2
  ·exact absurd t hh.1
theorem sortS_of {S F:List Sq} (h:F.Pairwise Slt) (p:S.Perm F):sortS S=F:=by
 have h1:(S.map sk).Perm (F.map sk):=p.map sk
 have h2:Asc (F.map sk):=by
  unfold Asc
  rw [List.pairwise_map]
  refine h.imp fun {a b} hh=>?_
  rw [lexLt_sk]
  simp only [decide_eq_false_iff_not]
  exact fun z=>Slt.irr (Slt.trans hh z)
 have h3:F.map sk=sortK (S.map sk):=sortK_unique h2 h1.symm
 unfold sortS
 rw [<-h3,List.map_map]
 conv=>rhs; rw [<-List.map_id F]
 rfl
theorem dTups_S:∀ (S:List Sq),dTups (S.map dS)=some (S.map sk)
 | []=>rfl
 | s :: r=>by
  rw [List.map_cons]
  unfold dTups
  rw [dTups_S r]; rfl
theorem dTups_F:∀ (S:List Fl),dTups (S.map dF)=some (S.map fk)
 | []=>rfl
 | s :: r=>by
  rw [List.map_cons]
  unfold dTups
  rw [dTups_F r]; rfl
theorem fSort_S67 (S:List Sq) (h:S.length < 67):fSort (dL S)=some (dL (sortS S)):=by
 show ((dTups (S.map dS)).bind fun ks=>if ks.length < 67 then some (D.lst ((sortK ks).map kT)) else none)=_
 rw [dTups_S]
 simp only [Option.bind_some,List.length_map,h,if_true]
 rw [<-sortS_sk,List.map_map]; rfl
theorem fSortD_D67 (S:List Sq) (h:S.length < 67):fSortD (dD S)=some (dL (sortS S)):=by
 show (if (((S.map fun s=>([s.1,s.2],D.bl true))).all fun kv=>!kv.1.isEmpty)=true/\(S.map fun s=>([s.1,s.2],D.bl true)).length < 67 then some (D.lst ((sortK ((S.map fun s=>([s.1,s.2],D.bl true)).map (·.1))).map kT)) else none)=_
 rw [if_pos ⟨by simp,by simpa using h⟩]
 have e:(S.map fun s=>([s.1,s.2],D.bl true)).map (·.1)=S.map sk:=by rw [List.map_map]; rfl
 rw [e,<-sortS_sk,List.map_map]; rfl
theorem fSort_S65 (S:List Sq) (h:S.length < 65):fSort (dL S)=some (dL (sortS S)):=fSort_S67 S (by omega)
theorem fSortD_D65 (S:List Sq) (h:S.length < 65):fSortD (dD S)=some (dL (sortS S)):=fSortD_D67 S (by omega)
@[simp] theorem eqb_F (a b:Fl):eqb (dF a) (dF b)=decide (a=b):=by
 rcases a with ⟨a1,a2,a3⟩; rcases b with ⟨b1,b2,b3⟩
 simp only [eqb,eqbs,Prod.mk.injEq,Bool.and_true]
 by_cases h:a1=b1<;>by_cases h':a2=b2<;>by_cases h'':a3=b3<;>simp [h,h',h'']
theorem pls3_F:∀ (L:List Fl),pls 3 (L.map dF)=true
 | []=>rfl
 | a :: r=>by
  have h1:pl 3 (dF a)=true:=rfl
  have:=pls3_F r
  simp [pls,this]
  exact h1
theorem any_F (q:Fl):∀ (L:List Fl),((L.map dF).any fun y=>eqb y (dF q))=decide (q ∈ L)
 | []=>rfl
 | a :: r=>by
  rw [List.map_cons,List.any_cons,any_F q r,eqb_F]
  by_cases h:a=q
  ·simp [h]
  ·have h':¬ q=a:=fun e=>h e.symm
   simp [h,h']
@[simp] theorem fIn_3 (a b c:Int) (L:List Fl):fIn (.tup [.int a,.int b,.int c]) (dFL L)=some (.bl (decide ((a,b,c) ∈ L))):=by
 show (if (pl 3 (dF (a,b,c)) && pls 3 (L.map dF))=true then some (D.bl ((L.map dF).any fun y=>eqb y (dF (a,b,c)))) else none)=_
 rw [pls3_F,any_F]; rfl
@[simp] theorem fNotIn_3 (a b c:Int) (L:List Fl):fNotIn (.tup [.int a,.int b,.int c]) (dFL L)=some (.bl (!(decide ((a,b,c) ∈ L)))):=by
 show (if (pl 3 (dF (a,b,c)) && pls 3 (L.map dF))=true then some (D.bl (!((L.map dF).any fun y=>eqb y (dF (a,b,c))))) else none)=_
 rw [pls3_F,any_F]; rfl
theorem eqbs_FL:∀ (L M:List Fl),eqbs (L.map dF) (M.map dF)=decide (L=M)
 | [],[]=>rfl
 | [],b :: r=>by simp [eqbs]
 | a :: r,[]=>by simp [eqbs]
 | a :: r,b :: s=>by
  rw [List.map_cons,List.map_cons,eqbs,eqb_F,eqbs_FL r s]
  by_cases h:a=b<;>by_cases h':r=s<;>simp [h,h']
theorem pl4_FL (L:List Fl):pl 4 (dFL L)=true:=pls3_F L
@[simp] theorem fEq_FL (L M:List Fl):fEq (dFL L) (dFL M)=some (.bl (decide (L=M))):=by
 show (if (pl 4 (dFL L) && pl 4 (dFL M))=true then some (D.bl (eqbs (L.map dF) (M.map dF))) else none)=_
 rw [pl4_FL,pl4_FL,eqbs_FL]; rfl
@[simp] theorem fNe_FL (L M:List Fl):fNe (dFL L) (dFL M)=some (.bl (!(decide (L=M)))):=by
 show (if (pl 4 (dFL L) && pl 4 (dFL M))=true then some (D.bl (!(eqbs (L.map dF) (M.map dF)))) else none)=_
 rw [pl4_FL,pl4_FL,eqbs_FL]; rfl
@[simp] theorem fSl_F (a b c:D):fSl (.tup [a,b,c]) none (some 2)=some (.tup [a,b]):=rfl
theorem zip_mapF (F G:List Fl):List.zipWith (fun a b=>D.tup [a,b]) (F.map dF) (G.map dF)=(F.zip G).map fun p=>D.tup [dF p.1,dF p.2]:=by
 rw [List.zipWith_map,List.zip,List.map_zipWith]
theorem fAll_m {α:Type} (p:α->Bool):∀ l:List α,fAll (.lst (l.map fun x=>D.bl (p x)))=some (.bl (l.all p)):=by
 intro l
 have h:∀ l:List α,bls (l.map fun x=>D.bl (p x))=some (l.map p):=by
  intro l
  induction l with
  | nil=>rfl
  | cons x r ih=>rw [List.map_cons]; unfold bls; rw [ih]; rfl
 unfold fAll
 dsimp only
 rw [h l]
 simp
end M

set_option Elab.async false
set_option linter.all false
set_option maxRecDepth 100000
namespace M
open PySem PySem.Spec PyProof.Rows L2 Ma
noncomputable def pairAt (s:Sq) (w:Int):List Fl:=if w=0 then [(s.1 - 1,s.2 - 1,0),(s.1,s.2 - 1,0)] else [(s.1 - 1,s.2 - 1,1),(s.1 - 1,s.2,1)]
noncomputable def hasP (L:List Fl) (s:Sq) (w:Int):Bool:=(pairAt s w).all fun f=>decide (f ∈ L)
noncomputable def slopeOf (L:List Fl) (s:Sq):Int:=if hasP L s (1 - (s.1 + s.2) % 2) then 1 else if hasP L s (1 - (1 - (s.1 + s.2) % 2)) then -1 else 0
theorem mem_cover {L:List Fl} {q:Sq}:q ∈ cover L ↔ ∃ f ∈ L,q=pos2 f\/q=mate f:=by
 unfold cover cells
 simp [List.mem_flatMap]
end M

set_option Elab.async false
set_option linter.all false
set_option maxRecDepth 100000
namespace M
open PySem PySem.Spec PyProof.Rows L2 Ma
theorem place_lt {top left wide a b:Int} (hw:0 < wide) (h:a < b):Slt (top + a / wide,left + a % wide) (top + b / wide,left + b % wide):=by
 unfold Slt
 simp only
 have h1:=Int.emod_add_mul_ediv a wide
 have h2:=Int.emod_add_mul_ediv b wide
 have h3:a / wide<=b / wide:=Int.ediv_le_ediv hw (by omega)
 rcases Int.lt_or_eq_of_le h3 with h4 | h4
 ·left; omega
 ·right
  rw [h4] at h1
  exact ⟨by omega,by omega⟩
structure LInv (high wide top left:Int) (pre:List Int) (L:List Fl):Prop where
 ord:L.Pairwise fun a b=>Slt (pos2 a) (pos2 b)
 at':∀ f ∈ L,∃ k ∈ pre,pos2 f=(top + k / wide,left + k % wide)
 way:∀ f ∈ L,(f.2.2=0/\f.2.1 + 1 < left + wide)\/(f.2.2=1/\f.1 + 1 < top + high)
 nd:(cover L).Nodup
 len:L.length<=pre.length
theorem cover_app (L:List Fl) (f:Fl):cover (L++[f])=cover L++[pos2 f,mate f]:=by
 unfold cover; simp [cells]
theorem LInv.same {high wide top left:Int} {pre:List Int} {L:List Fl} (h:LInv high wide top left pre L) (k:Int):LInv high wide top left (pre++[k]) L :=
 ⟨h.ord,fun f hf=>by obtain ⟨k',h1,h2⟩:=h.at' f hf; exact ⟨k',by simp [h1],h2⟩,h.way,h.nd,by have:=h.len; simp; omega⟩
theorem LInv.new {high wide top left:Int} {pre:List Int} {L:List Fl} (hw:0 < wide) (h:LInv high wide top left pre L) {k lies:Int} (hk:∀ k' ∈ pre,k' < k)
  (hl:(lies=0/\left + k % wide + 1 < left + wide/\(top + k / wide,left + k % wide + 1) ∉ cover L)\/(lies=1/\top + k / wide + 1 < top + high)) (hp:(top + k / wide,left + k % wide) ∉ cover L) :
  LInv high wide top left (pre++[k]) (L++[(top + k / wide,left + k % wide,lies)])/\mate (top + k / wide,left + k % wide,lies)=(top + k / wide + lies,left + k % wide + 1 - lies)/\mate (top + k / wide,left + k % wide,lies) ∉ cover L/\mate (top + k / wide,left + k % wide,lies) ≠ (top + k / wide,left + k % wide):=by
 have hlt:∀ f ∈ L,Slt (pos2 f) (top + k / wide,left + k % wide):=fun f hf=>by
  obtain ⟨k',h1,h2⟩:=h.at' f hf
  rw [h2]; exact place_lt hw (hk k' h1)
 have hm:mate (top + k / wide,left + k % wide,lies)=(top + k / wide + lies,left + k % wide + 1 - lies):=by
  unfold mate
  rcases hl with ⟨rfl,_⟩ | ⟨rfl,_⟩
  ·simp
  ·simp
 have hn:mate (top + k / wide,left + k % wide,lies) ∉ cover L:=by
  rw [hm]
  rcases hl with ⟨rfl,_,h3⟩ | ⟨rfl,_⟩
  ·simpa using h3
  ·intro hc
   obtain ⟨f,hf,e⟩:=mem_cover.1 hc
   have hs:=hlt f hf
   unfold Slt pos2 at hs
   rcases e with e | e
   ·unfold pos2 at e
    simp only [Prod.mk.injEq] at e hs
    omega
   ·unfold mate at e
    split at e
    ·simp only [Prod.mk.injEq] at e hs; omega
    ·simp only [Prod.mk.injEq] at e hs; omega
 have hne:mate (top + k / wide,left + k % wide,lies) ≠ (top + k / wide,left + k % wide):=by
  rw [hm]
  simp only [ne_eq,Prod.mk.injEq]
  rcases hl with ⟨rfl,_⟩ | ⟨rfl,_⟩<;>omega
 refine ⟨⟨?_,fun f hf=>?_,fun f hf=>?_,?_,by have:=h.len; simp; omega⟩,hm,hn,hne⟩
 ·rw [List.pairwise_append]
  refine ⟨h.ord,by simp,fun a ha b hb=>?_⟩
  simp at hb; subst hb
  exact hlt a ha
 ·rcases List.mem_append.mp hf with hf | hf
  ·obtain ⟨k',h1,h2⟩:=h.at' f hf; exact ⟨k',by simp [h1],h2⟩
  ·simp at hf; subst hf; exact ⟨k,by simp,rfl⟩
 ·rcases List.mem_append.mp hf with hf | hf
  ·exact h.way f hf
  ·simp at hf; subst hf
   rcases hl with ⟨rfl,h3,_⟩ | ⟨rfl,h3⟩
   ·exact .inl ⟨rfl,h3⟩
   ·exact .inr ⟨rfl,h3⟩
 ·rw [cover_app,List.nodup_append]
  refine ⟨h.nd,?_,fun a ha b hb e=>?_⟩
  ·simp only [List.nodup_cons,List.mem_singleton,List.not_mem_nil,not_false_eq_true,List.nodup_nil,and_true]
   exact fun e=>hne e.symm
  ·subst e
   simp only [List.mem_cons,List.not_mem_nil,or_false] at hb
   rcases hb with e | e
   ·rw [e] at ha; exact hp ha
   ·rw [e] at ha; exact hn ha
structure Drawn (high wide top left:Int) (F:List Sq) (L:List Fl):Prop where
 fl:IsFloor F
 lay:Lay F L
 len:(F.length:Int)<=high * wide
theorem LInv.drawn {high wide top left:Int} {L:List Fl} (hw:0 < wide) (hh:0 < high) (ht:0<=top) (hl:0<=left) (h1:top + high<=8) (h2:left + wide<=8) (h:LInv high wide top left (rng 0 (high * wide)) L):Drawn high wide top left (sortS (cover L)) L:=by
 have hin:∀ s ∈ cover L,top<=s.1/\s.1 < top + high/\left<=s.2/\s.2 < left + wide:=by
  intro s hs
  obtain ⟨f,hf,e⟩:=mem_cover.1 hs
  obtain ⟨k,hk,hp⟩:=h.at' f hf
  rw [mem_rng] at hk
  have a1:0<=k / wide:=Int.ediv_nonneg hk.1 (by omega)
  have a2:k / wide < high:=Int.ediv_lt_of_lt_mul hw hk.2
  have a3:=Int.emod_nonneg k (show wide ≠ 0 by omega)
  have a4:=Int.emod_lt_of_pos k hw
  have hp1:f.1=top + k / wide:=congrArg Prod.fst hp
  have hp2:f.2.1=left + k % wide:=congrArg Prod.snd hp
  have hwy:=h.way f hf
  rcases e with e | e
  ·rw [e]; unfold pos2; simp only; omega
  ·rw [e]; unfold mate
   split
   ·simp only; omega
   ·simp only; omega
 have hp:=sortS_perm (cover L)
 have hnd:(sortS (cover L)).Nodup:=hp.nodup_iff.mpr h.nd
 refine ⟨⟨sortS_strict h.nd,fun s hs=>?_⟩,⟨h.ord,fun f hf=>?_,hp.symm⟩,?_⟩
 ·have:=hin s (hp.mem_iff.mp hs)
  unfold OnB; omega
 ·rcases h.way f hf with e | e
  ·exact .inl e.1
  ·exact .inr e.1
 ·have:=nodup_len (l2:=grid top (top + high) left (left + wide)) hnd fun x hx=>mem_grid.2 (hin x (hp.mem_iff.mp hx))
  rw [grid_len_le] at this
  have e1:(top + high - top).toNat=high.toNat:=by omega
  have e2:(left + wide - left).toNat=wide.toNat:=by omega
  rw [e1,e2] at this
  have e3:((high.toNat * wide.toNat:Nat):Int)=high * wide:=by
   rw [Int.natCast_mul,Int.toNat_of_nonneg (by omega),Int.toNat_of_nonneg (by omega)]
  omega
end M

set_option Elab.async false
set_option linter.all false
set_option maxRecDepth 100000
namespace M
open PySem PySem.Spec PyProof.Rows L2 Ma
theorem once {q:Sq}:∀ {L:List Fl},(cover L).Nodup->∀ {f g:Fl},f ∈ L->g ∈ L->q ∈ cells f->q ∈ cells g->f=g
 | [],_,f,_,hf,_,_,_=>by simp at hf
 | x :: r,h,f,g,hf,hg,qf,qg=>by
  have e:cover (x :: r)=cells x++cover r:=by unfold cover; simp
  rw [e,List.nodup_append] at h
  obtain ⟨_,h2,h3⟩:=h
  have inr:∀ {k:Fl},k ∈ r->q ∈ cells k->q ∈ cover r:=fun hk hq=>by unfold cover; exact List.mem_flatMap.mpr ⟨_,hk,hq⟩
  rcases List.mem_cons.mp hf with ef | hf'
  ·rcases List.mem_cons.mp hg with eg | hg'
   ·rw [ef,eg]
   ·rw [ef] at qf; exact absurd rfl (h3 q qf q (inr hg' qg))
  ·rcases List.mem_cons.mp hg with eg | hg'
   ·rw [eg] at qg; exact absurd rfl (h3 q qg q (inr hf' qf))
   ·exact once h2 hf' hg' qf qg
noncomputable def ind (L:List Fl) (f:Fl):Int:=if f ∈ L then 1 else 0
noncomputable def sg (n:Int):Int:=1 - 2 * (n % 2)
noncomputable def dl (A B:List Fl) (f:Fl):Int:=ind A f - ind B f
noncomputable def hN (A B:List Fl) (r:Int):Nat->Int
 | 0=>0
 | n + 1=>hN A B r n + sg (r + (n + 1)) * dl A B (r - 1,n,1)
noncomputable def ht (A B:List Fl) (r c:Int):Int:=hN A B r c.toNat
section
variable {F:List Sq} {A B:List Fl}
end
end M

set_option Elab.async false
set_option linter.all false
set_option maxRecDepth 100000
namespace M
open PySem PySem.Spec PyProof.Rows L2 Ma
noncomputable def twin (f:Fl):Fl:=(f.1 + 1 - f.2.2,f.2.1 + f.2.2,f.2.2)
noncomputable def tn1 (f:Fl):Fl:=(f.1,f.2.1,1 - f.2.2)
noncomputable def tn2 (f:Fl):Fl:=(f.1 + f.2.2,f.2.1 + 1 - f.2.2,1 - f.2.2)
noncomputable def turnOf (L:List Fl) (f:Fl):List Fl:=sortF (L.filter (fun g=>!(decide (g=f) || decide (g=twin f)))++[tn1 f,tn2 f])
end M

set_option Elab.async false
set_option linter.all false
set_option maxRecDepth 100000
namespace M
open PySem PySem.Spec PyProof.Rows L2 Ma
end M

set_option Elab.async false
set_option linter.all false
set_option maxRecDepth 100000
namespace M
open PySem PySem.Spec PyProof.Rows L2 Ma
structure Form where
 hx:Int->Int->Int
 vy:Int->Int->Int
noncomputable def vs (t:Form):Nat->Int
 | 0=>0
 | n + 1=>vs t n + t.vy n 0
noncomputable def hs (t:Form) (r:Int):Nat->Int
 | 0=>0
 | n + 1=>hs t r n + t.hx r n
end M

set_option Elab.async false
set_option linter.all false
set_option maxRecDepth 100000
namespace M
open PySem PySem.Spec PyProof.Rows L2 Ma
end M

set_option Elab.async false
set_option linter.all false
set_option maxRecDepth 100000
namespace M
open PySem PySem.Spec PyProof.Rows L2 Ma
end M

set_option Elab.async false
set_option linter.all false
set_option maxRecDepth 100000
namespace M
open PySem PySem.Spec PyProof.Rows L2 Ma
noncomputable def turnAt (A:List Fl) (s:Sq):List Fl:=turnOf A (s.1 - 1,s.2 - 1,if hasP A s 0 then 0 else 1)
end M

set_option Elab.async false
set_option linter.all false
set_option maxRecDepth 100000
namespace M
open PySem PySem.Spec PyProof.Rows L2 Ma
noncomputable def mu (C:List Sq) (A B:List Fl):Nat:=(C.map fun s=>(ht A B s.1 s.2).natAbs).sum
structure Cl (cl:Int->Int):Prop where
 tow:∀ σ h,(σ=1\/σ=-1)->0 < σ * cl h->0 < σ * h/\cl (h - σ)=cl h - σ
 any:∀ h,cl h ≠ 0->∃ σ,(σ=1\/σ=-1)/\0 < σ * h/\∀ h',0 < σ * h'->0 < σ * cl h'
 le:∀ h,(cl h).natAbs<=h.natAbs
inductive Way (cl:Int->Int) (C:List Sq) (B:List Fl):List Fl->List Sq->List Fl->Prop
 | nil {A}:Way cl C B A [] A
 | snoc {A M A' s}:Way cl C B A M A'->s ∈ C->0 < slopeOf A' s * cl (ht A' B s.1 s.2)->Way cl C B A (M++[s]) (turnAt A' s)
end M

set_option Elab.async false
set_option linter.all false
set_option maxRecDepth 100000
namespace M
open PySem PySem.Spec PyProof.Rows L2 Ma
end M

set_option Elab.async false
set_option linter.all false
set_option maxRecDepth 100000
namespace M
open PySem PySem.Spec PyProof.Rows L2 Ma
end M

set_option Elab.async false
set_option linter.all false
set_option maxRecDepth 100000
namespace M
open PySem PySem.Spec PyProof.Rows L2 Ma
end M

set_option Elab.async false
set_option linter.all false
set_option maxRecDepth 100000
namespace M
open PySem PySem.Spec PyProof.Rows L2 Ma
end M

set_option Elab.async false
set_option linter.all false
set_option maxRecDepth 100000
namespace M
open PySem PySem.Spec PyProof.Rows L2 Ma
noncomputable def code (s:Sq):Nat:=9 * s.1.toNat + s.2.toNat
noncomputable def nbr (s:Sq) (w:Int):Sq:=if w=0 then (s.1,s.2 + 1) else (s.1 + 1,s.2)
end M

set_option Elab.async false
set_option linter.all false
set_option maxRecDepth 100000
namespace M
open PySem PySem.Spec PyProof.Rows L2 Ma
noncomputable def cut (R:List Sq) (o:Sq):List Sq:=R.filter fun t=>!(decide (t=o))
noncomputable def pick (A:List Sq->List (List Fl)) (s:Sq) (R:List Sq) (w:Int):List (List Fl):=if nbr s w ∈ R then (A (cut R (nbr s w))).map fun L=>(s.1,s.2,w) :: L else []
noncomputable def allF:Nat->List Sq->List (List Fl)
 | 0,_=>[]
 | _ + 1,[]=>[[]]
 | n + 1,s :: R=>pick (allF n) s R 0++pick (allF n) s R 1
end M

set_option Elab.async false
set_option linter.all false
set_option maxRecDepth 100000
namespace M
open PySem PySem.Spec PyProof.Rows L2 Ma
noncomputable def flt (A B:List Fl):Bool:=lexLL (A.map fk) (B.map fk)
end M

set_option Elab.async false
set_option linter.all false
namespace M
open PySem PySem.Spec PyProof.Rows L2 Ma
noncomputable abbrev Hs:=List (Sq × Sq)
noncomputable def nbL (F:List Sq) (s:Sq):List Sq:=[(s.1 - 1,s.2),(s.1,s.2 - 1),(s.1,s.2 + 1),(s.1 + 1,s.2)].filter fun q=>decide (q ∈ F)
noncomputable def hget (h:Hs) (x:Sq):Option Sq:=(h.find? fun p=>decide (p.1=x)).map (·.2)
noncomputable def hput (h:Hs) (x y:Sq):Hs:=if (h.any fun p=>decide (p.1=x))=true then h.map fun p=>if p.1=x then (p.1,y) else p else h++[(x,y)]
noncomputable def fpGo (rec:Sq->Hs->List Sq->Option (Bool × Hs × List Sq)) (s:Sq):List Sq->Hs->List Sq->Option (Bool × Hs × List Sq)
 | [],h,t=>some (false,h,t)
 | x :: r,h,t=>if x ∈ t then fpGo rec s r h t else match hget h x with
  | none=>some (true,hput h x s,t++[x])
  | some y=>match rec y h (t++[x]) with
   | none=>none
   | some (true,h',t')=>some (true,hput h' x s,t')
   | some (false,h',t')=>fpGo rec s r h' t'
noncomputable def fp (F:List Sq):Nat->Sq->Hs->List Sq->Option (Bool × Hs × List Sq)
 | 0=>fun _ _ _=>none
 | n + 1=>fun s h t=>fpGo (fp F n) s (nbL F s) h t
structure Hok (F:List Sq) (h:Hs):Prop where
 nd:(h.map (·.1)).Nodup
 adj:∀ p ∈ h,p.1 ∈ nbL F p.2
structure FT (F:List Sq) (s:Sq) (h:Hs) (t:List Sq) (h':Hs):Prop where
 ok:Hok F h'
 same:∀ x ∈ t,hget h' x=hget h x
 val:(h'.map (·.2)).Perm (s :: h.map (·.2))
structure FF (F:List Sq) (ns:List Sq) (h:Hs) (t:List Sq) (h':Hs) (t':List Sq):Prop where
 eq:h'=h
 all:∀ x ∈ ns,x ∈ t'
 cls:∀ x ∈ t',x ∈ t\/∃ y,hget h x=some y/\∀ z ∈ nbL F y,z ∈ t'
structure Tok (U t t':List Sq):Prop where
 nd:t'.Nodup
 sub:∀ x ∈ t',x ∈ U
 up:∀ x ∈ t,x ∈ t'
end M

set_option Elab.async false
set_option linter.all false
namespace M
open PySem PySem.Spec PyProof.Rows L2 Ma
noncomputable def half (F:List Sq) (p:Int):List Sq:=F.filter fun s=>decide ((s.1 + s.2) % 2=p)
noncomputable def fo (x y:Sq):Fl:=((if Slt y x then y else x).1,(if Slt y x then y else x).2,if x.1=y.1 then 0 else 1)
instance (a b:Sq):Decidable (Slt a b):=by unfold Slt; exact inferInstance
theorem halves (F:List Sq) (p:Int) (hp:p=0\/p=1):(half F (1 - p)++half F p).Perm F:=by
 have e:half F (1 - p)=F.filter fun s=>!(decide ((s.1 + s.2) % 2=p)):=by
  unfold half
  refine List.filter_congr fun s _=>?_
  by_cases h:(s.1 + s.2) % 2=p
  ·simp only [h,decide_true,Bool.not_true]; exact decide_eq_false (by omega)
  ·simp only [h,decide_false,Bool.not_false]; exact decide_eq_true (by omega)
 rw [e]
 exact List.perm_append_comm.trans (List.filter_append_perm _ F)
structure Wall (F W:List Sq):Prop where
 srt:W.Pairwise Slt
 ne:W ≠ []
 sub:∀ s ∈ W,s ∈ F
 par:∃ p,∀ s ∈ W,(s.1 + s.2) % 2=p
 few:∃ T:List Sq,(∀ s ∈ W,∀ z ∈ nbL F s,z ∈ T)/\T.length < W.length
end M

set_option Elab.async false
set_option linter.all false
set_option maxRecDepth 100000
namespace M
open PySem PySem.Spec PyProof.Rows L2 Ma
theorem cut_eq {c:Nat}:∀ {a b x y:List Nat},c ∉ a->c ∉ b->a++c :: x=b++c :: y->a=b/\x=y
 | [],[],_,_,_,_,h=>⟨rfl,(List.cons.inj h).2⟩
 | [],d :: b,_,_,_,hb,h=>by
  have:=(List.cons.inj h).1
  subst this
  exact absurd List.mem_cons_self hb
 | d :: a,[],_,_,ha,_,h=>by
  have:=(List.cons.inj h).1
  subst this
  exact absurd List.mem_cons_self ha
 | d :: a,e :: b,x,y,ha,hb,h=>by
  obtain ⟨h1,h2⟩:=List.cons.inj h
  obtain ⟨h3,h4⟩:=cut_eq (fun z=>ha (List.mem_cons_of_mem _ z)) (fun z=>hb (List.mem_cons_of_mem _ z)) h2
  exact ⟨by rw [h1,h3],h4⟩
noncomputable def jl (c:Nat):List (List Nat)->List Nat
 | []=>[]
 | [x]=>x
 | x :: y :: r=>x++c :: jl c (y :: r)
theorem jl_inj {c:Nat}:∀ {A B:List (List Nat)},A ≠ []->B ≠ []->(∀ l ∈ A,c ∉ l)->(∀ l ∈ B,c ∉ l)->jl c A=jl c B->A=B
 | [],_,h,_,_,_,_=>absurd rfl h
 | _ :: _,[],_,h,_,_,_=>absurd rfl h
 | [a],[b],_,_,_,_,e=>by rw [show a=b from e]
 | [a],b :: b' :: r,_,_,ha,_,e=>by
  have e:a=b++c :: jl c (b' :: r):=e
  exact absurd (by rw [e]; simp) (ha a (by simp))
 | a :: a' :: r,[b],_,_,_,hb,e=>by
  have e:a++c :: jl c (a' :: r)=b:=e
  exact absurd (by rw [<-e]; simp) (hb b (by simp))
 | a :: a' :: r,b :: b' :: t,_,_,ha,hb,e=>by
  obtain ⟨h1,h2⟩:=cut_eq (ha a (by simp)) (hb b (by simp)) (show a++c :: jl c (a' :: r)=b++c :: jl c (b' :: t) from e)
  rw [h1,jl_inj (by simp) (by simp) (fun l h=>ha l (List.mem_cons_of_mem _ h)) (fun l h=>hb l (List.mem_cons_of_mem _ h)) h2]
theorem app_l (a b:Str):(a++b).cps.toList=a.cps.toList++b.cps.toList:=by
 show (a.cps++b.cps).toList=_
 simp
theorem str_l {a b:Str} (h:a.cps.toList=b.cps.toList):a=b:=by
 cases a; cases b
 congr
 exact Array.toList_inj.mp h
theorem join_l (c:Nat):∀ ss:List Str,(Str.join ⟨#[c]⟩ ss).cps.toList=jl c (ss.map fun s=>s.cps.toList)
 | []=>rfl
 | [x]=>rfl
 | x :: y :: r=>by
  show (x++⟨#[c]⟩++Str.join ⟨#[c]⟩ (y :: r)).cps.toList=_
  rw [app_l,app_l,join_l c (y :: r)]
  simp [jl]
theorem join0_l:∀ ss:List Str,(Str.join "" ss).cps.toList=(ss.map fun s=>s.cps.toList).flatten
 | []=>rfl
 | [x]=>by simp [Str.join]
 | x :: y :: r=>by
  show (x++""++Str.join "" (y :: r)).cps.toList=_
  rw [app_l,app_l,join0_l (y :: r),show ("":Str)=⟨#[]⟩ by decide +kernel]
  simp
theorem split_ne (x y:Str):Txt.split x y ≠ []:=by
 unfold Txt.split
 split
 ·simp
 ·split
  ·simp
  ·rw [StrLaws.partsBetween_eq]
   obtain ⟨p,q,e⟩:=StrLaws.partsFrom_ne x y.length 0 _
   rw [e]; simp
theorem split_eq {c:Nat} {ls:List (List Nat)} (h:ls ≠ []) (hc:∀ l ∈ ls,c ∉ l):Txt.split ⟨(jl c ls).toArray⟩ ⟨#[c]⟩=ls.map fun l=>⟨l.toArray⟩:=by
 have h1:=congrArg (fun s:Str=>s.cps.toList) (StrLaws.join_split ⟨(jl c ls).toArray⟩ ⟨#[c]⟩)
 simp only [join_l] at h1
 have h2:=StrLaws.split_free ⟨(jl c ls).toArray⟩ c
 have h3:=split_ne ⟨(jl c ls).toArray⟩ ⟨#[c]⟩
 generalize Txt.split ⟨(jl c ls).toArray⟩ ⟨#[c]⟩=S at h1 h2 h3 ⊢
 have e:S.map (fun s=>s.cps.toList)=ls:=jl_inj (by simpa using h3) h (fun l hl=>by
  obtain ⟨s,hs,rfl⟩:=List.mem_map.mp hl
  exact h2 s hs) hc h1
 rw [<-e,List.map_map]
 conv=>lhs; rw [<-List.map_id S]
 exact List.map_congr_left fun s _=>rfl
noncomputable def rowL (g:Nat->Nat->Nat) (r:Nat):List Nat:=(List.range 8).map (g r)
noncomputable def lns (g:Nat->Nat->Nat):List (List Nat):=(List.range 8).map (rowL g)
noncomputable def txL (g:Nat->Nat->Nat):List Nat:=jl 10 (lns g)
noncomputable def tlK (g:Nat->Nat->Nat) (k:Nat):List Nat:=(if 0 < k/\k % 8=0 then [10] else [])++[g (k / 8) (k % 8)]
noncomputable def tl (g:Nat->Nat->Nat) (ks:List Nat):List Nat:=ks.flatMap (tlK g)
theorem tl_all (g:Nat->Nat->Nat):tl g (List.range 64)=txL g:=by
 simp [tl,tlK,txL,lns,rowL,jl,List.range,List.range.loop]
theorem tl_len (g:Nat->Nat->Nat):∀ ks:List Nat,(tl g ks).length<=2 * ks.length
 | []=>Nat.le_refl _
 | k :: r=>by
  have:=tl_len g r
  unfold tl at this ⊢
  rw [List.flatMap_cons,List.length_append,List.length_cons]
  have:(tlK g k).length<=2:=by unfold tlK; split<;>simp
  omega
noncomputable def sD (ps:List (Sq × Nat)):List (List Int × D):=ps.map fun p=>([p.1.1,p.1.2],D.str ⟨#[p.2]⟩)
noncomputable def look:List (Sq × Nat)->Sq->Option Nat
 | [],_=>none
 | p :: r,q=>if p.1=q then some p.2 else look r q
theorem dget_s (q:Sq):∀ ps:List (Sq × Nat),dget (sD ps) [q.1,q.2]=(look ps q).map fun c=>D.str ⟨#[c]⟩
 | []=>rfl
 | p :: r=>by
  show (if [p.1.1,p.1.2]=[q.1,q.2] then some (D.str ⟨#[p.2]⟩) else dget (sD r) [q.1,q.2])=_
  rw [dget_s q r,show look (p :: r) q=if p.1=q then some p.2 else look r q from rfl]
  by_cases h:p.1=q
  ·rw [if_pos h,if_pos (by rw [h])]; rfl
  ·rw [if_neg h,if_neg fun z=>h (by
    have z1:=(List.cons.inj z).1
    have z2:=(List.cons.inj (List.cons.inj z).2).1
    exact Prod.ext z1 z2)]
theorem dput_s {ps:List (Sq × Nat)} {q:Sq} {c:Nat} (h:q ∉ ps.map (·.1)):dput (sD ps) [q.1,q.2] (.str ⟨#[c]⟩)=sD (ps++[(q,c)]):=by
 unfold dput
 have:((sD ps).any fun kv=>decide (kv.1=[q.1,q.2]))=false:=by
  rw [List.any_eq_false]
  intro x hx
  obtain ⟨p,hp,rfl⟩:=List.mem_map.mp hx
  simp only [decide_eq_true_eq]
  intro z
  refine h (List.mem_map.mpr ⟨p,hp,?_⟩)
  have z1:=(List.cons.inj z).1
  have z2:=(List.cons.inj (List.cons.inj z).2).1
  exact Prod.ext z1 z2
 rw [this]
 simp [sD]
theorem look_mem {q:Sq} {c:Nat}:∀ {ps:List (Sq × Nat)},look ps q=some c->(q,c) ∈ ps
 | [],h=>by cases h
 | p :: r,h=>by
  unfold look at h
  split at h
  ·rename_i e
   cases h
   rw [<-e]; exact List.mem_cons_self
  ·exact List.mem_cons_of_mem _ (look_mem h)
theorem mem_look {q:Sq} {c:Nat}:∀ {ps:List (Sq × Nat)},(ps.map (·.1)).Nodup->(q,c) ∈ ps->look ps q=some c
 | [],_,h=>by cases h
 | p :: r,n,h=>by
  rw [List.map_cons,List.nodup_cons] at n
  unfold look
  rcases List.mem_cons.mp h with e | h
  ·rw [<-e,if_pos rfl]
  ·rw [if_neg fun z=>n.1 (List.mem_map.mpr ⟨_,h,z.symm⟩)]
   exact mem_look n.2 h
noncomputable def sg0 (w:Int):Nat:=if w=0 then 60 else 94
noncomputable def sg1 (w:Int):Nat:=if w=0 then 62 else 118
noncomputable def sgL (L:List Fl):List (Sq × Nat):=L.flatMap fun f=>[(pos2 f,sg0 f.2.2),(mate f,sg1 f.2.2)]
theorem sg_app (L:List Fl) (f:Fl):sgL (L++[f])=sgL L++[(pos2 f,sg0 f.2.2),(mate f,sg1 f.2.2)]:=by
 unfold sgL; simp
theorem sg_keys (L:List Fl):(sgL L).map (·.1)=cover L:=by
 unfold sgL cover
 rw [List.map_flatMap]; rfl
noncomputable def gr (L:List Fl) (r c:Nat):Nat:=(look (sgL L) ((r:Int),(c:Int))).getD 46
theorem sg_mem {L:List Fl} {q:Sq} {c:Nat} (h:(q,c) ∈ sgL L):∃ f ∈ L,(q=pos2 f/\c=sg0 f.2.2)\/(q=mate f/\c=sg1 f.2.2):=by
 obtain ⟨f,hf,h⟩:=List.mem_flatMap.mp h
 refine ⟨f,hf,?_⟩
 simp only [List.mem_cons,List.not_mem_nil,or_false] at h
 rcases h with h | h
 ·exact .inl ⟨congrArg Prod.fst h,congrArg Prod.snd h⟩
 ·exact .inr ⟨congrArg Prod.fst h,congrArg Prod.snd h⟩
theorem gr_ne (L:List Fl) (r c:Nat):gr L r c ≠ 10:=by
 unfold gr
 cases h:look (sgL L) ((r:Int),(c:Int)) with
 | none=>simp
 | some d =>
  obtain ⟨f,_,h | h⟩:=sg_mem (look_mem h)
  ·rw [h.2]; unfold sg0; simp; split<;>decide
  ·rw [h.2]; unfold sg1; simp; split<;>decide
noncomputable def sqs:List (Nat × Nat):=(List.range 8).flatMap fun r=>(List.range 8).map fun c=>(r,c)
noncomputable def up (p:Nat × Nat):Sq:=((p.1:Int),(p.2:Int))
theorem sqs_mem {s:Sq} (h:OnB s):∃ p ∈ sqs,up p=s:=by
 unfold OnB at h
 refine ⟨(s.1.toNat,s.2.toNat),?_,?_⟩
 ·unfold sqs
  refine List.mem_flatMap.mpr ⟨s.1.toNat,List.mem_range.mpr (by omega),List.mem_map.mpr ⟨s.2.toNat,List.mem_range.mpr (by omega),rfl⟩⟩
 ·unfold up
  exact Prod.ext (by simp; omega) (by simp; omega)
theorem sqs_ord:sqs.Pairwise fun a b=>Slt (up a) (up b):=by decide +kernel
noncomputable def floorOf (g:Nat->Nat->Nat) (ps:List (Nat × Nat)):List Sq:=(ps.filter fun p=>!(decide (g p.1 p.2=46))).map up
noncomputable def fl1 (g:Nat->Nat->Nat) (p:Nat × Nat):Option Fl:=if g p.1 p.2=60 then some ((p.1:Int),(p.2:Int),0) else if g p.1 p.2=94 then some ((p.1:Int),(p.2:Int),1) else none
noncomputable def flagsOf (g:Nat->Nat->Nat) (ps:List (Nat × Nat)):List Fl:=ps.filterMap (fl1 g)
theorem eq_sorted {α:Type} {lt:α->α->Prop} (irr:∀ a,¬ lt a a) (tr:∀ a b,lt a b->lt b a->False) {A B:List α} (hA:A.Pairwise lt) (hB:B.Pairwise lt) (hm:∀ x,x ∈ A ↔ x ∈ B):A=B:=by
 have nA:A.Nodup:=hA.imp fun {a b} h z=>by subst z; exact irr _ h
 have nB:B.Nodup:=hB.imp fun {a b} h z=>by subst z; exact irr _ h
 exact List.Perm.eq_of_pairwise (fun a b _ _ h1 h2=>(tr a b h1 h2).elim) hA hB ((List.perm_ext_iff_of_nodup nA nB).mpr hm)
theorem slt_asym {a b:Sq} (h:Slt a b) (h':Slt b a):False:=Slt.irr (h.trans h')
theorem floorOf_gr {F:List Sq} {L:List Fl} (hF:IsFloor F) (h:Lay F L):floorOf (gr L) sqs=F:=by
 have nc:((sgL L).map (·.1)).Nodup:=by rw [sg_keys]; exact h.cov.nodup_iff.mpr (nodup_of_sorted hF.ord)
 refine eq_sorted (fun _=>Slt.irr) (fun _ _=>slt_asym) ?_ hF.ord fun s=>?_
 ·unfold floorOf
  rw [List.pairwise_map]
  exact sqs_ord.filter _
 ·unfold floorOf
  rw [List.mem_map]
  constructor
  ·rintro ⟨p,hp,rfl⟩
   have hp:=(List.mem_filter.mp hp).2
   unfold gr at hp
   cases e:look (sgL L) ((p.1:Int),(p.2:Int)) with
   | none=>rw [e] at hp; simp at hp
   | some c =>
    have:=List.mem_map_of_mem (f:=(·.1)) (look_mem e)
    rw [sg_keys] at this
    exact h.cov.mem_iff.mp this
  ·intro hs
   obtain ⟨p,hp,rfl⟩:=sqs_mem (hF.on s hs)
   refine ⟨p,List.mem_filter.mpr ⟨hp,?_⟩,rfl⟩
   have hk:=h.cov.mem_iff.mpr hs
   rw [<-sg_keys] at hk
   obtain ⟨⟨q,c⟩,hq,e⟩:=List.mem_map.mp hk
   have e:q=up p:=e
   subst e
   have hl:=mem_look nc hq
   have hg:gr L p.1 p.2=c:=by unfold gr; rw [show ((p.1:Int),(p.2:Int))=up p from rfl,hl]; rfl
   rw [hg]
   obtain ⟨f,_,z | z⟩:=sg_mem hq
   ·rw [z.2]; unfold sg0; split<;>decide
   ·rw [z.2]; unfold sg1; split<;>decide
theorem flagsOf_gr {F:List Sq} {L:List Fl} (hF:IsFloor F) (h:Lay F L):flagsOf (gr L) sqs=L:=by
 have nc:((sgL L).map (·.1)).Nodup:=by rw [sg_keys]; exact h.cov.nodup_iff.mpr (nodup_of_sorted hF.ord)
 refine eq_sorted (lt:=fun a b=>Slt (pos2 a) (pos2 b)) (fun _=>Slt.irr) (fun _ _=>slt_asym) ?_ h.ord fun f=>?_
 ·unfold flagsOf
  rw [List.pairwise_filterMap]
  refine sqs_ord.imp fun {a b} hab x hx y hy=>?_
  have hp:∀ {p:Nat × Nat} {x:Fl},fl1 (gr L) p=some x->pos2 x=up p:=fun {p x} e=>by
   unfold fl1 at e
   split at e
   ·cases e; rfl
   ·split at e
    ·cases e; rfl
    ·cases e
  rw [hp hx,hp hy]; exact hab
 ·unfold flagsOf
  rw [List.mem_filterMap]
  constructor
  ·rintro ⟨p,hp,e⟩
   unfold fl1 gr at e
   cases el:look (sgL L) ((p.1:Int),(p.2:Int)) with
   | none=>rw [el] at e; simp at e
   | some c =>
    rw [el] at e
    obtain ⟨f',hf',z⟩:=sg_mem (look_mem el)
    have hw:=h.way f' hf'
    have z':((p.1:Int),(p.2:Int))=pos2 f'/\(c=60/\f'.2.2=0\/c=94/\f'.2.2=1)\/(c=62\/c=118):=by
     rcases z with ⟨z1,z2⟩ | ⟨z1,z2⟩
     ·refine .inl ⟨z1,?_⟩
      unfold sg0 at z2
      rcases hw with w | w
      ·exact .inl ⟨by rw [z2,w]; rfl,w⟩
      ·exact .inr ⟨by rw [z2,w]; rfl,w⟩
     ·right
      unfold sg1 at z2
      rcases hw with w | w
      ·exact .inl (by rw [z2,w]; rfl)
      ·exact .inr (by rw [z2,w]; rfl)
    rcases z' with ⟨z1,⟨rfl,w⟩ | ⟨rfl,w⟩⟩ | rfl | rfl
    ·simp at e
     rw [<-e]
     have:f'=((p.1:Int),(p.2:Int),0):=by
      unfold pos2 at z1
      exact Prod.ext (congrArg Prod.fst z1).symm (Prod.ext (congrArg Prod.snd z1).symm w)
     rw [<-this]; exact hf'
    ·simp at e
     rw [<-e]
     have:f'=((p.1:Int),(p.2:Int),1):=by
      unfold pos2 at z1
      exact Prod.ext (congrArg Prod.fst z1).symm (Prod.ext (congrArg Prod.snd z1).symm w)
     rw [<-this]; exact hf'
    ·simp at e
    ·simp at e
  ·intro hf
   have hin:pos2 f ∈ F:=h.cov.mem_iff.mp (List.mem_flatMap.mpr ⟨f,hf,by unfold cells; simp⟩)
   obtain ⟨p,hp,e⟩:=sqs_mem (hF.on _ hin)
   refine ⟨p,hp,?_⟩
   have hl:=mem_look nc (q:=pos2 f) (c:=sg0 f.2.2) (List.mem_flatMap.mpr ⟨f,hf,by simp⟩)
   rw [<-e] at hl
   have hg:gr L p.1 p.2=sg0 f.2.2:=by unfold gr; rw [show ((p.1:Int),(p.2:Int))=up p from rfl,hl]; rfl
   have e1:(p.1:Int)=f.1:=congrArg Prod.fst e
   have e2:(p.2:Int)=f.2.1:=congrArg Prod.snd e
   unfold fl1
   rw [hg,e1,e2]
   unfold sg0
   rcases h.way f hf with w | w
   ·rw [w]; simp; exact Prod.ext rfl (Prod.ext rfl w.symm)
   ·rw [w]; simp; exact Prod.ext rfl (Prod.ext rfl w.symm)
end M

set_option Elab.async false
set_option linter.all false
set_option maxRecDepth 100000
namespace M
open PySem PySem.Spec PyProof.Rows L2
noncomputable def m_on_board:EX:=xRet (eAnd (eCh fLe fLtI (kE (.int 0)) (e2 fIx (vE 0) (kE (.int 0))) (kE (.int 8))) (eCh fLe fLtI (kE (.int 0)) (e2 fIx (vE 0) (kE (.int 1))) (kE (.int 8))))
noncomputable def dn_on_board:List D->R D:=den 1 m_on_board
noncomputable def b_check_floor_1:EX:=xIf (bNot (tstB (eCall 1 dn_on_board (aCons (vF 1) (aNil))))) (xNever) (xNil)
noncomputable def b_check_floor_2:EX:=xIf (bNot (tstB (e2 fLt (vE 2) (vE 3)))) (xNever) (xNil)
noncomputable def m_check_floor:EX:=xSeq (xFor (iD (vF 0)) (gN 1) (b_check_floor_1)) (xFor (iZ (vF 0) (eSl (vE 0) (oPart (kE (.int 1))) (oNone))) (gT 2 3) (b_check_floor_2))
noncomputable def dn_check_floor:List D->R D:=den 4 m_check_floor
noncomputable def m_squares_under:EX:=xSeq (xSet 1 (e2 fIx (vE 0) (kE (.int 0)))) (xSeq (xSet 2 (e2 fIx (vE 0) (kE (.int 1)))) (xSeq (xIf (tstB (e2 fEq (e2 fIx (vE 0) (kE (.int 2))) (kE (.int 0)))) (xRet (eLst (aCons (eTup (aCons (vF 1) (aCons (vF 2) (aNil)))) (aCons (eTup (aCons (vF 1) (aCons (e2 fAdd (vE 2) (kE (.int 1))) (aNil)))) (aNil))))) (xNil)) (xRet (eLst (aCons (eTup (aCons (vF 1) (aCons (vF 2) (aNil)))) (aCons (eTup (aCons (e2 fAdd (vE 1) (kE (.int 1))) (aCons (vF 2) (aNil)))) (aNil)))))))
noncomputable def dn_squares_under:List D->R D:=den 3 m_squares_under
noncomputable def m_are_in_order:EX:=xRet (e1 fAll (eComp [1,2] (gT 1 2) (iZ (vF 0) (eSl (vE 0) (oPart (kE (.int 1))) (oNone))) (tTrue) (e2 fLt (eSl (vE 1) (oNone) (oPart (kE (.int 2)))) (eSl (vE 2) (oNone) (oPart (kE (.int 2)))))))
noncomputable def dn_are_in_order:List D->R D:=den 3 m_are_in_order
noncomputable def b_all_under_1:EX:=xExt 1 (eCall 1 dn_squares_under (aCons (vF 2) (aNil)))
noncomputable def m_all_under:EX:=xSeq (xOwn 1 (eLst (aNil))) (xSeq (xFor (iD (vF 0)) (gN 2) (b_all_under_1)) (xRet (e1 fSort (vE 1))))
noncomputable def dn_all_under:List D->R D:=den 3 m_all_under
noncomputable def m_is_laying:EX:=xSeq (xDo (eCall 1 dn_check_floor (aCons (vF 0) (aNil)))) (xSeq (xIf (bNot (tstB (e1 fAll (eComp [2] (gN 2) (iD (vF 1)) (tTrue) (e2 fIn (e2 fIx (vE 2) (kE (.int 2))) (eTup (aCons (kE (.int 0)) (aCons (kE (.int 1)) (aNil))))))))) (xRet (kE (.bl false))) (xNil)) (xRet (eAnd (eCall 1 dn_are_in_order (aCons (vF 1) (aNil))) (e2 fEq (eCall 1 dn_all_under (aCons (vF 1) (aNil))) (vE 0)))))
noncomputable def dn_is_laying:List D->R D:=den 3 m_is_laying
noncomputable def m_check_laying:EX:=xIf (bNot (tstB (eCall 2 dn_is_laying (aCons (vF 0) (aCons (vF 1) (aNil)))))) (xNever) (xNil)
noncomputable def dn_check_laying:List D->R D:=den 2 m_check_laying
noncomputable def b_written_2:EX:=xDput 1 (vE 3) (vF 4)
noncomputable def b_written_1:EX:=xFor (iZs (eCall 1 dn_squares_under (aCons (vF 2) (aNil))) (e2 fIx (vE 2) (kE (.int 2)))) (gT 3 4) (b_written_2)
noncomputable def b_written_3:EX:=xApp 5 (eJoin "" (eComp [7] (gN 7) (iR1 (kE (.int 8))) (tTrue) (eGet (vE 1) (eTup (aCons (vF 6) (aCons (vF 7) (aNil)))) (kE (.str ".")))))
noncomputable def m_written:EX:=xSeq (xOwn 1 (kE (.dic []))) (xSeq (xFor (iD (vF 0)) (gN 2) (b_written_1)) (xSeq (xOwn 5 (eLst (aNil))) (xSeq (xFor (iR1 (kE (.int 8))) (gN 6) (b_written_3)) (xRet (eJoin "\n" (vE 5))))))
noncomputable def dn_written:List D->R D:=den 8 m_written
noncomputable def m_shown:EX:=xSeq (xDo (eCall 2 dn_check_laying (aCons (vF 0) (aCons (vF 1) (aNil))))) (xRet (eCall 1 dn_written (aCons (vF 1) (aNil))))
noncomputable def dn_shown:List D->R D:=den 2 m_shown
noncomputable def b_signs_by_square_2:EX:=xDput 3 (eTup (aCons (vF 4) (aCons (vF 5) (aNil)))) (vF 6)
noncomputable def b_signs_by_square_1:EX:=xFor (iEn (vF 2)) (gT 5 6) (b_signs_by_square_2)
noncomputable def m_signs_by_square:EX:=xSeq (xSet 1 (eSplit (vE 0) "\n")) (xSeq (xIf (bOr (tstB (e2 fNe (e1 fLen (vE 1)) (kE (.int 8)))) (tstB (e1 fAny (eComp [2] (gN 2) (iD (vF 1)) (tTrue) (e2 fNe (e1 fLen (vE 2)) (kE (.int 8))))))) (xNever) (xNil)) (xSeq (xOwn 3 (kE (.dic []))) (xSeq (xFor (iEn (vF 1)) (gT 4 2) (b_signs_by_square_1)) (xFrz 3 (xRet (vF 3))))))
noncomputable def dn_signs_by_square:List D->R D:=den 7 m_signs_by_square
noncomputable def b_flags_begun_2:EX:=xIf (tstB (e2 fEq (vE 3) (eSign 0 (vE 4)))) (xApp 1 (eTup (aCons (e2 fIx (vE 2) (kE (.int 0))) (aCons (e2 fIx (vE 2) (kE (.int 1))) (aCons (vF 4) (aNil)))))) (xNil)
noncomputable def b_flags_begun_1:EX:=xFor (iT (eTup (aCons (kE (.int 0)) (aCons (kE (.int 1)) (aNil))))) (gN 4) (b_flags_begun_2)
noncomputable def m_flags_begun:EX:=xThen (xOwn 1 (eLst (aNil))) (xThen (xFor (iDi (vF 0)) (gT 2 3) (b_flags_begun_1)) (xRetO 1))
noncomputable def dn_flags_begun:List D->R D:=denN 5 m_flags_begun
noncomputable def m_read:EX:=xThen (xSet 1 (eCall 1 dn_signs_by_square (aCons (vF 0) (aNil)))) (xThen (xOwn 4 (eComp [2,3] (gT 2 3) (iDi (vF 1)) (tstB (e2 fNe (vE 3) (kE (.str ".")))) (vF 2))) (xThen (xOwn 5 (eCall 1 dn_flags_begun (aCons (vF 1) (aNil)))) (xThen (xIf (bOr (bNot (tstB (eLoose 5 (eLoose 4 (eCall 2 dn_is_laying (aCons (vF 4) (aCons (vF 5) (aNil)))))))) (tstB (e2 fNe (eLoose 5 (eCall 1 dn_written (aCons (vF 5) (aNil)))) (vE 0)))) (xNever) (xNil)) (xRetU 4 5))))
noncomputable def dn_read:List D->R D:=denN 6 m_read
noncomputable def m_law_cell_at:EX:=xSeq (xIf (tstB (e2 fLt (vE 1) (e1 fLen (vE 0)))) (xRet (e2 fIx (vE 0) (vE 1))) (xNil)) (xRet (kE (.int 0)))
noncomputable def dn_law_cell_at:List D->R D:=den 2 m_law_cell_at
noncomputable def b_law_laid_1:EX:=xSeq (xSet 10 (e2 fAdd (vE 4) (e2 fDiv (vE 9) (vE 3)))) (xSeq (xSet 11 (e2 fAdd (vE 5) (e2 fMod (vE 9) (vE 3)))) (xSeq (xSet 6 (e2 fMod (e2 fMul (vE 6) (kE (.int 48271))) (kE (.int 2147483647)))) (xSeq (xOwn 12 (eLst (aNil))) (xSeq (xIf (bAnd (tstB (e2 fDnotIn (eTup (aCons (vF 10) (aCons (vF 11) (aNil)))) (vE 7))) (tstB (e2 fNe (e2 fMod (e2 fDiv (vE 6) (kE (.int 8))) (kE (.int 8))) (kE (.int 5))))) (xSeq (xIf (bAnd (tstB (e2 fLt (e2 fAdd (vE 11) (kE (.int 1))) (e2 fAdd (vE 5) (vE 3)))) (tstB (e2 fDnotIn (eTup (aCons (vF 10) (aCons (e2 fAdd (vE 11) (kE (.int 1))) (aNil)))) (vE 7)))) (xApp 12 (kE (.int 0))) (xNil)) (xIf (tstB (e2 fLt (e2 fAdd (vE 10) (kE (.int 1))) (e2 fAdd (vE 4) (vE 2)))) (xApp 12 (kE (.int 1))) (xNil))) (xNil)) (xIf (tstB (e2 fGt (e1 fLen (vE 12)) (kE (.int 0)))) (xSeq (xSet 13 (e2 fIx (vE 12) (e2 fMod (e2 fDiv (vE 6) (kE (.int 64))) (e1 fLen (vE 12))))) (xSeq (xApp 8 (eTup (aCons (vF 10) (aCons (vF 11) (aCons (vF 13) (aNil)))))) (xSeq (xDput 7 (eTup (aCons (vF 10) (aCons (vF 11) (aNil)))) (kE (.bl true))) (xDput 7 (eTup (aCons (e2 fAdd (vE 10) (vE 13)) (aCons (e2 fSub (e2 fAdd (vE 11) (kE (.int 1))) (vE 13)) (aNil)))) (kE (.bl true)))))) (xNil))))))
noncomputable def m_law_laid:EX:=xSeq (xSet 1 (eCall 2 dn_law_cell_at (aCons (vF 0) (aCons (kE (.int 0)) (aNil))))) (xSeq (xSet 2 (e2 fAdd (kE (.int 1)) (e2 fMod (vE 1) (kE (.int 8))))) (xSeq (xSet 3 (e2 fAdd (kE (.int 1)) (e2 fMod (e2 fDiv (vE 1) (kE (.int 8))) (kE (.int 8))))) (xSeq (xSet 4 (e2 fMod (e2 fDiv (vE 1) (kE (.int 64))) (e2 fSub (kE (.int 9)) (vE 2)))) (xSeq (xSet 5 (e2 fMod (e2 fDiv (vE 1) (kE (.int 512))) (e2 fSub (kE (.int 9)) (vE 3)))) (xSeq (xSet 6 (e2 fAdd (kE (.int 1)) (e2 fMod (eCall 2 dn_law_cell_at (aCons (vF 0) (aCons (kE (.int 1)) (aNil)))) (kE (.int 2147483646))))) (xSeq (xOwn 7 (kE (.dic []))) (xSeq (xOwn 8 (eLst (aNil))) (xSeq (xFor (iR1 (e2 fMul (vE 2) (vE 3))) (gN 9) (b_law_laid_1)) (xFrz 8 (xRet (eTup (aCons (e1 fSortD (vE 7)) (aCons (vF 8) (aNil))))))))))))))
noncomputable def dn_law_laid:List D->R D:=den 14 m_law_laid
noncomputable def b_law_text_1:EX:=xSeq (xDput 1 (eTup (aCons (e2 fIx (vE 2) (kE (.int 0))) (aCons (e2 fIx (vE 2) (kE (.int 1))) (aNil)))) (e2 fIx (eLst (aCons (kE (.str "<")) (aCons (kE (.str "^")) (aNil)))) (e2 fIx (vE 2) (kE (.int 2))))) (xDput 1 (eTup (aCons (e2 fAdd (e2 fIx (vE 2) (kE (.int 0))) (e2 fIx (vE 2) (kE (.int 2)))) (aCons (e2 fSub (e2 fAdd (e2 fIx (vE 2) (kE (.int 1))) (kE (.int 1))) (e2 fIx (vE 2) (kE (.int 2)))) (aNil)))) (e2 fIx (eLst (aCons (kE (.str ">")) (aCons (kE (.str "v")) (aNil)))) (e2 fIx (vE 2) (kE (.int 2)))))
noncomputable def b_law_text_2:EX:=xSeq (xIf (bAnd (tstB (e2 fGt (vE 4) (kE (.int 0)))) (tstB (e2 fEq (e2 fMod (vE 4) (kE (.int 8))) (kE (.int 0))))) (xSet 3 (e2 fAdd (vE 3) (kE (.str "\n")))) (xNil)) (xIf (tstB (e2 fDin (eTup (aCons (e2 fDiv (vE 4) (kE (.int 8))) (aCons (e2 fMod (vE 4) (kE (.int 8))) (aNil)))) (vE 1))) (xSet 3 (e2 fAdd (vE 3) (e2 fDget (vE 1) (eTup (aCons (e2 fDiv (vE 4) (kE (.int 8))) (aCons (e2 fMod (vE 4) (kE (.int 8))) (aNil))))))) (xSet 3 (e2 fAdd (vE 3) (kE (.str ".")))))
noncomputable def m_law_text:EX:=xSeq (xOwn 1 (kE (.dic []))) (xSeq (xFor (iD (vF 0)) (gN 2) (b_law_text_1)) (xSeq (xSet 3 (kE (.str ""))) (xSeq (xFor (iR1 (kE (.int 64))) (gN 4) (b_law_text_2)) (xRet (vF 3)))))
noncomputable def dn_law_text:List D->R D:=den 5 m_law_text
noncomputable def b_law_tuples_2:EX:=xIf (bOr (bNot (tstB (e1 (fIsi .int) (vE 4)))) (tstB (e1 (fIsi .bool) (vE 4)))) (xRet (kE (.bl false))) (xNil)
noncomputable def b_law_tuples_1:EX:=xSeq (xIf (bOr (bNot (tstB (e1 (fIsi .tuple) (e2 fIx (vE 0) (vE 3))))) (bOr (tstB (e2 fNe (e1 fLen (e2 fIx (vE 0) (vE 3))) (vE 2))) (tstB (e2 fNe (e2 fIx (vE 0) (vE 3)) (e2 fIx (vE 1) (vE 3)))))) (xRet (kE (.bl false))) (xNil)) (xFor (iT (e2 fIx (vE 0) (vE 3))) (gN 4) (b_law_tuples_2))
noncomputable def m_law_tuples:EX:=xSeq (xIf (bOr (bNot (tstB (e1 (fIsi .list) (vE 0)))) (tstB (e2 fNe (e1 fLen (vE 0)) (e1 fLen (vE 1))))) (xRet (kE (.bl false))) (xNil)) (xSeq (xFor (iR1 (e1 fLen (vE 1))) (gN 3) (b_law_tuples_1)) (xRet (kE (.bl true))))
noncomputable def dn_law_tuples:List D->R D:=den 5 m_law_tuples
noncomputable def m_law_good:EX:=xSeq (xIf (bOr (bNot (tstB (e1 (fIsi .tuple) (vE 0)))) (tstB (e2 fNe (e1 fLen (vE 0)) (kE (.int 2))))) (xRet (kE (.bl false))) (xNil)) (xRet (eAnd (eCall 3 dn_law_tuples (aCons (e2 fIx (vE 0) (kE (.int 0))) (aCons (vF 1) (aCons (kE (.int 2)) (aNil))))) (eCall 3 dn_law_tuples (aCons (e2 fIx (vE 0) (kE (.int 1))) (aCons (vF 2) (aCons (kE (.int 3)) (aNil)))))))
noncomputable def dn_law_good:List D->R D:=den 3 m_law_good
noncomputable def m_law:EX:=xSeq (xSet 1 (eCall 1 dn_law_laid (aCons (vF 0) (aNil)))) (xSeq (xSet 2 (eLst (aCons (e1 fList (e2 fIx (vE 1) (kE (.int 0)))) (aCons (e1 fList (e2 fIx (vE 1) (kE (.int 1)))) (aNil))))) (xSeq (xSet 3 (eCall 2 dn_shown (aCons (e2 fIx (vE 2) (kE (.int 0))) (aCons (e2 fIx (vE 2) (kE (.int 1))) (aNil))))) (xSeq (xIf (bOr (bNot (tstB (e1 (fIsi .str) (vE 3)))) (tstB (e2 fNe (vE 3) (eCall 1 dn_law_text (aCons (e2 fIx (vE 1) (kE (.int 1))) (aNil)))))) (xRet (kE (.bl false))) (xNil)) (xSeq (xIf (bOr (tstB (e2 fNe (e2 fIx (vE 2) (kE (.int 0))) (e2 fIx (vE 1) (kE (.int 0))))) (tstB (e2 fNe (e2 fIx (vE 2) (kE (.int 1))) (e2 fIx (vE 1) (kE (.int 1)))))) (xRet (kE (.bl false))) (xNil)) (xSeq (xFnd 4 (vF 3) dn_read (e2 fIx (vE 1) (kE (.int 0))) (e2 fIx (vE 1) (kE (.int 1))) dn_law_good (eTup (aCons (kE (.int 0)) (aCons (kE (.int 0)) (aNil)))) (eTup (aCons (kE (.int 0)) (aCons (kE (.int 0)) (aCons (kE (.int 0)) (aNil)))))) (xRet (eCall 3 dn_law_good (aCons (eCall 1 (twoL dn_read) (aCons (vF 3) (aNil))) (aCons (e2 fIx (vE 1) (kE (.int 0))) (aCons (e2 fIx (vE 1) (kE (.int 1))) (aNil)))))))))))
noncomputable def dn_law:List D->R D:=den 5 m_law
end M

set_option Elab.async false
set_option linter.all false
set_option maxHeartbeats 1000000
namespace M
open PySem PySem.Spec PyProof.Rows L2 Ma
theorem seq_nx {m n:EX} {E E':Ev} {r:R Out} (h:m E=.ok (.nx E')) (h2:n E'=r):xSeq m n E=r:=by
 unfold xSeq; rw [h]; exact h2
theorem seq_rt {m n:EX} {E:Ev} {d:D} (h:m E=.ok (.rt d)):xSeq m n E=.ok (.rt d):=by
 unfold xSeq; rw [h]; rfl
theorem seqP {m n:EX} {E:Ev} (E':Ev) (P:R Out->Prop) (h:m E=.ok (.nx E')) (h2:P (n E')):P (xSeq m n E):=by
 unfold xSeq; rw [h]; exact h2
theorem lay_len {F:List Sq} {L:List Fl} (h:Lay F L) (hl:F.length < 64):L.length < 32:=by
 have:(cover L).length=2 * L.length:=by
  unfold cover; rw [List.length_flatMap]; simp only [cells,List.length_cons,List.length_nil,List.map_const',List.sum_replicate_nat]; omega
 have:=h.cov.length_eq
 omega
theorem set_ok {i:Nat} {m:EV} {E:Ev} {d:D} (h:m E=.ok d):xSet i m E=.ok (.nx (E.set i (.fz d))):=by
 unfold xSet; rw [h]; rfl
theorem if_nil {t:Ev->R Bool} {a:EX} {E:Ev} (h:t E=.ok false):xIf t a xNil E=.ok (.nx E):=by
 unfold xIf; rw [h]; rfl
theorem or_ff {s t:Ev->R Bool} {E:Ev} (h:s E=.ok false) (h':t E=.ok false):bOr s t E=.ok false:=by
 unfold bOr; rw [h]; exact h'
theorem not_ff {t:Ev->R Bool} {E:Ev} (h:t E=.ok true):bNot t E=.ok false:=by
 unfold bNot; rw [h]; rfl
theorem tst_ok {m:EV} {E:Ev} {b:Bool} (h:m E=.ok (.bl b)):tstB m E=.ok b:=by
 unfold tstB; rw [h]; rfl
@[simp high] theorem vE_f0 (d:D) (r:Ev):vE 0 (.fz d :: r)=.ok d:=rfl
@[simp high] theorem vE_o0 (d:D) (r:Ev):vE 0 (.ow d :: r)=.ok d:=rfl
@[simp high] theorem vF_f0 (d:D) (r:Ev):vF 0 (.fz d :: r)=.ok d:=rfl
@[simp high] theorem vE_f1 (x0:Sl) (d:D) (r:Ev):vE 1 (x0 :: .fz d :: r)=.ok d:=rfl
@[simp high] theorem vE_o1 (x0:Sl) (d:D) (r:Ev):vE 1 (x0 :: .ow d :: r)=.ok d:=rfl
@[simp high] theorem vF_f1 (x0:Sl) (d:D) (r:Ev):vF 1 (x0 :: .fz d :: r)=.ok d:=rfl
@[simp high] theorem vE_f2 (x0 x1:Sl) (d:D) (r:Ev):vE 2 (x0 :: x1 :: .fz d :: r)=.ok d:=rfl
@[simp high] theorem vE_o2 (x0 x1:Sl) (d:D) (r:Ev):vE 2 (x0 :: x1 :: .ow d :: r)=.ok d:=rfl
@[simp high] theorem vF_f2 (x0 x1:Sl) (d:D) (r:Ev):vF 2 (x0 :: x1 :: .fz d :: r)=.ok d:=rfl
@[simp high] theorem vE_f3 (x0 x1 x2:Sl) (d:D) (r:Ev):vE 3 (x0 :: x1 :: x2 :: .fz d :: r)=.ok d:=rfl
@[simp high] theorem vE_o3 (x0 x1 x2:Sl) (d:D) (r:Ev):vE 3 (x0 :: x1 :: x2 :: .ow d :: r)=.ok d:=rfl
@[simp high] theorem vF_f3 (x0 x1 x2:Sl) (d:D) (r:Ev):vF 3 (x0 :: x1 :: x2 :: .fz d :: r)=.ok d:=rfl
@[simp high] theorem vE_f4 (x0 x1 x2 x3:Sl) (d:D) (r:Ev):vE 4 (x0 :: x1 :: x2 :: x3 :: .fz d :: r)=.ok d:=rfl
@[simp high] theorem vE_o4 (x0 x1 x2 x3:Sl) (d:D) (r:Ev):vE 4 (x0 :: x1 :: x2 :: x3 :: .ow d :: r)=.ok d:=rfl
@[simp high] theorem vF_f4 (x0 x1 x2 x3:Sl) (d:D) (r:Ev):vF 4 (x0 :: x1 :: x2 :: x3 :: .fz d :: r)=.ok d:=rfl
@[simp high] theorem vE_f5 (x0 x1 x2 x3 x4:Sl) (d:D) (r:Ev):vE 5 (x0 :: x1 :: x2 :: x3 :: x4 :: .fz d :: r)=.ok d:=rfl
@[simp high] theorem vE_o5 (x0 x1 x2 x3 x4:Sl) (d:D) (r:Ev):vE 5 (x0 :: x1 :: x2 :: x3 :: x4 :: .ow d :: r)=.ok d:=rfl
@[simp high] theorem vF_f5 (x0 x1 x2 x3 x4:Sl) (d:D) (r:Ev):vF 5 (x0 :: x1 :: x2 :: x3 :: x4 :: .fz d :: r)=.ok d:=rfl
@[simp high] theorem vE_f6 (x0 x1 x2 x3 x4 x5:Sl) (d:D) (r:Ev):vE 6 (x0 :: x1 :: x2 :: x3 :: x4 :: x5 :: .fz d :: r)=.ok d:=rfl
@[simp high] theorem vE_o6 (x0 x1 x2 x3 x4 x5:Sl) (d:D) (r:Ev):vE 6 (x0 :: x1 :: x2 :: x3 :: x4 :: x5 :: .ow d :: r)=.ok d:=rfl
@[simp high] theorem vF_f6 (x0 x1 x2 x3 x4 x5:Sl) (d:D) (r:Ev):vF 6 (x0 :: x1 :: x2 :: x3 :: x4 :: x5 :: .fz d :: r)=.ok d:=rfl
@[simp high] theorem vE_f7 (x0 x1 x2 x3 x4 x5 x6:Sl) (d:D) (r:Ev):vE 7 (x0 :: x1 :: x2 :: x3 :: x4 :: x5 :: x6 :: .fz d :: r)=.ok d:=rfl
@[simp high] theorem vE_o7 (x0 x1 x2 x3 x4 x5 x6:Sl) (d:D) (r:Ev):vE 7 (x0 :: x1 :: x2 :: x3 :: x4 :: x5 :: x6 :: .ow d :: r)=.ok d:=rfl
@[simp high] theorem vF_f7 (x0 x1 x2 x3 x4 x5 x6:Sl) (d:D) (r:Ev):vF 7 (x0 :: x1 :: x2 :: x3 :: x4 :: x5 :: x6 :: .fz d :: r)=.ok d:=rfl
@[simp high] theorem vE_f8 (x0 x1 x2 x3 x4 x5 x6 x7:Sl) (d:D) (r:Ev):vE 8 (x0 :: x1 :: x2 :: x3 :: x4 :: x5 :: x6 :: x7 :: .fz d :: r)=.ok d:=rfl
@[simp high] theorem vE_o8 (x0 x1 x2 x3 x4 x5 x6 x7:Sl) (d:D) (r:Ev):vE 8 (x0 :: x1 :: x2 :: x3 :: x4 :: x5 :: x6 :: x7 :: .ow d :: r)=.ok d:=rfl
@[simp high] theorem vF_f8 (x0 x1 x2 x3 x4 x5 x6 x7:Sl) (d:D) (r:Ev):vF 8 (x0 :: x1 :: x2 :: x3 :: x4 :: x5 :: x6 :: x7 :: .fz d :: r)=.ok d:=rfl
@[simp high] theorem vE_f9 (x0 x1 x2 x3 x4 x5 x6 x7 x8:Sl) (d:D) (r:Ev):vE 9 (x0 :: x1 :: x2 :: x3 :: x4 :: x5 :: x6 :: x7 :: x8 :: .fz d :: r)=.ok d:=rfl
@[simp high] theorem vE_o9 (x0 x1 x2 x3 x4 x5 x6 x7 x8:Sl) (d:D) (r:Ev):vE 9 (x0 :: x1 :: x2 :: x3 :: x4 :: x5 :: x6 :: x7 :: x8 :: .ow d :: r)=.ok d:=rfl
@[simp high] theorem vF_f9 (x0 x1 x2 x3 x4 x5 x6 x7 x8:Sl) (d:D) (r:Ev):vF 9 (x0 :: x1 :: x2 :: x3 :: x4 :: x5 :: x6 :: x7 :: x8 :: .fz d :: r)=.ok d:=rfl
@[simp high] theorem vE_f10 (x0 x1 x2 x3 x4 x5 x6 x7 x8 x9:Sl) (d:D) (r:Ev):vE 10 (x0 :: x1 :: x2 :: x3 :: x4 :: x5 :: x6 :: x7 :: x8 :: x9 :: .fz d :: r)=.ok d:=rfl
@[simp high] theorem vE_o10 (x0 x1 x2 x3 x4 x5 x6 x7 x8 x9:Sl) (d:D) (r:Ev):vE 10 (x0 :: x1 :: x2 :: x3 :: x4 :: x5 :: x6 :: x7 :: x8 :: x9 :: .ow d :: r)=.ok d:=rfl
@[simp high] theorem vF_f10 (x0 x1 x2 x3 x4 x5 x6 x7 x8 x9:Sl) (d:D) (r:Ev):vF 10 (x0 :: x1 :: x2 :: x3 :: x4 :: x5 :: x6 :: x7 :: x8 :: x9 :: .fz d :: r)=.ok d:=rfl
@[simp high] theorem vE_f11 (x0 x1 x2 x3 x4 x5 x6 x7 x8 x9 x10:Sl) (d:D) (r:Ev):vE 11 (x0 :: x1 :: x2 :: x3 :: x4 :: x5 :: x6 :: x7 :: x8 :: x9 :: x10 :: .fz d :: r)=.ok d:=rfl
@[simp high] theorem vE_o11 (x0 x1 x2 x3 x4 x5 x6 x7 x8 x9 x10:Sl) (d:D) (r:Ev):vE 11 (x0 :: x1 :: x2 :: x3 :: x4 :: x5 :: x6 :: x7 :: x8 :: x9 :: x10 :: .ow d :: r)=.ok d:=rfl
@[simp high] theorem vF_f11 (x0 x1 x2 x3 x4 x5 x6 x7 x8 x9 x10:Sl) (d:D) (r:Ev):vF 11 (x0 :: x1 :: x2 :: x3 :: x4 :: x5 :: x6 :: x7 :: x8 :: x9 :: x10 :: .fz d :: r)=.ok d:=rfl
@[simp high] theorem vE_f12 (x0 x1 x2 x3 x4 x5 x6 x7 x8 x9 x10 x11:Sl) (d:D) (r:Ev):vE 12 (x0 :: x1 :: x2 :: x3 :: x4 :: x5 :: x6 :: x7 :: x8 :: x9 :: x10 :: x11 :: .fz d :: r)=.ok d:=rfl
@[simp high] theorem vE_o12 (x0 x1 x2 x3 x4 x5 x6 x7 x8 x9 x10 x11:Sl) (d:D) (r:Ev):vE 12 (x0 :: x1 :: x2 :: x3 :: x4 :: x5 :: x6 :: x7 :: x8 :: x9 :: x10 :: x11 :: .ow d :: r)=.ok d:=rfl
@[simp high] theorem vF_f12 (x0 x1 x2 x3 x4 x5 x6 x7 x8 x9 x10 x11:Sl) (d:D) (r:Ev):vF 12 (x0 :: x1 :: x2 :: x3 :: x4 :: x5 :: x6 :: x7 :: x8 :: x9 :: x10 :: x11 :: .fz d :: r)=.ok d:=rfl
@[simp high] theorem vE_f13 (x0 x1 x2 x3 x4 x5 x6 x7 x8 x9 x10 x11 x12:Sl) (d:D) (r:Ev):vE 13 (x0 :: x1 :: x2 :: x3 :: x4 :: x5 :: x6 :: x7 :: x8 :: x9 :: x10 :: x11 :: x12 :: .fz d :: r)=.ok d:=rfl
@[simp high] theorem vE_o13 (x0 x1 x2 x3 x4 x5 x6 x7 x8 x9 x10 x11 x12:Sl) (d:D) (r:Ev):vE 13 (x0 :: x1 :: x2 :: x3 :: x4 :: x5 :: x6 :: x7 :: x8 :: x9 :: x10 :: x11 :: x12 :: .ow d :: r)=.ok d:=rfl
@[simp high] theorem vF_f13 (x0 x1 x2 x3 x4 x5 x6 x7 x8 x9 x10 x11 x12:Sl) (d:D) (r:Ev):vF 13 (x0 :: x1 :: x2 :: x3 :: x4 :: x5 :: x6 :: x7 :: x8 :: x9 :: x10 :: x11 :: x12 :: .fz d :: r)=.ok d:=rfl
theorem on_board_d (s:Sq):dn_on_board [dS s]=.ok (.bl (decide (OnB s))):=by
 unfold dn_on_board m_on_board
 simp
 by_cases h1:0<=s.1<;>by_cases h2:s.1 < 8<;>by_cases h3:0<=s.2<;>simp [h1,h2,h3,OnB]
theorem check_floor_d {F:List Sq} (h:IsFloor F):dn_check_floor [dL F]=.ok .non:=by
 unfold dn_check_floor m_check_floor
 obtain ⟨E1,e1,t1,rfl⟩:=forL_fold (set:=gN 1) (b:=b_check_floor_1) dS (fun (_:Unit) _=>()) (fun _ E=>∃ t,E=[.fz (dL F),t,.un,.un]) F () [.fz (dL F),.un,.un,.un] (by
  rintro _ E ⟨t,rfl⟩ x hx
  refine ⟨_,rfl,?_⟩
  simp [b_check_floor_1,on_board_d,h.on x hx]) ⟨_,rfl⟩
 obtain ⟨E2,e2,t2,t3,rfl⟩:=forL_fold (set:=gT 2 3) (b:=b_check_floor_2) (fun p:Sq × Sq=>D.tup [dS p.1,dS p.2]) (fun (_:Unit) _=>()) (fun _ E=>∃ t t',E=[.fz (dL F),t1,t,t']) (F.zip (F.drop 1)) () [.fz (dL F),t1,.un,.un] (by
  rintro _ E ⟨t,t',rfl⟩ x hx
  refine ⟨_,rfl,?_⟩
  simp [b_check_floor_2,pairs_lt h.ord x hx]) ⟨_,_,rfl⟩
 simp [e1]
 rw [<-List.drop_one,<-List.map_drop,zip_map2,e2]
 rfl
theorem cell_d (ns:List Int) (k:Nat):dn_law_cell_at [.scr ns,.int k]=.ok (.int (ns.getD k 0)):=by
 unfold dn_law_cell_at m_law_cell_at
 simp
 by_cases h:k < ns.length
 ·have:fIx (.scr ns) (.int k)=some (.int ns[k]):=by
   show (atI ns (k:Int)).map D.int=_
   rw [atI_nat (x:=ns[k]) (by simp [h])]; rfl
  simp [h,this]
 ·simp [h]
theorem squares_under_d (f:Fl):dn_squares_under [dF f]=.ok (dL (cells f)):=by
 unfold dn_squares_under m_squares_under
 by_cases h:f.2.2=0
 ·simp [h,cells,pos2,mate]
 ·simp [h,cells,pos2,mate]
noncomputable def inOrd (L:List Fl):Bool:=(L.zip (L.drop 1)).all fun p=>decide (Slt (pos2 p.1) (pos2 p.2))
theorem are_in_order_d (L:List Fl) (hl:L.length<=1000):dn_are_in_order [dFL L]=.ok (.bl (inOrd L)):=by
 unfold dn_are_in_order m_are_in_order
 simp [noOw]
 rw [<-List.drop_one,<-List.map_drop,zip_mapF,if_pos (by omega),compL_map (fun p:Fl × Fl=>D.tup [dF p.1,dF p.2]) (fun p=>D.bl (decide (Slt (pos2 p.1) (pos2 p.2)))) _ (fun p hp=>⟨_,rfl,by simp [clr]; rfl⟩)]
 simp only [R.ok_bind]
 rw [fAll_m (fun p:Fl × Fl=>decide (Slt (pos2 p.1) (pos2 p.2)))]
 rfl
theorem all_under_d (L:List Fl) (hl:(cover L).length < 65):dn_all_under [dFL L]=.ok (dL (sortS (cover L))):=by
 unfold dn_all_under m_all_under
 obtain ⟨E1,e1,t2,rfl⟩:=forL_pre (set:=gN 2) (b:=b_all_under_1) dF (fun (pre:List Fl) E=>∃ t2,E=[.fz (dFL L),.ow (dL (cover pre)),t2]) L (by
  rintro pre f post epre E ⟨t2,rfl⟩
  refine ⟨_,rfl,?_⟩
  have lc:(cover pre).length < 65:=by
   rw [epre] at hl
   unfold cover at hl ⊢
   simp at hl ⊢; omega
  refine goes_mk (E:=[.fz (dFL L),.ow (dL (cover (pre++[f]))),.fz (dF f)]) ⟨_,rfl⟩ ?_
  have e2:cover (pre++[f])=cover pre++cells f:=by unfold cover; simp
  have l2:(cells f).length=2:=rfl
  have l3:(cover pre).length + 2 < 1000000:=by omega
  rw [e2]
  simp [b_all_under_1,squares_under_d,l2,l3]) [.fz (dFL L),.ow (dL []),.un] ⟨_,rfl⟩
 simp
 show ended (forL (gN 2) b_all_under_1 (List.map dF L) [.fz (dFL L),.ow (dL []),.un] >>= _)=_
 rw [e1]
 simp
 rw [fSort_S65 _ hl]
 rfl
theorem is_laying_d {F:List Sq} (hF:IsFloor F) (L:List Fl) (hl:(cover L).length < 65):dn_is_laying [dL F,dFL L]=.ok (.bl ((L.all fun f=>decide (f.2.2=0\/f.2.2=1)) && (inOrd L && decide (sortS (cover L)=F)))):=by
 have ll:L.length < 65:=by
  have:(cover L).length=2 * L.length:=by
   unfold cover; rw [List.length_flatMap]; simp only [cells,List.length_cons,List.length_nil,List.map_const',List.sum_replicate_nat]; omega
  omega
 generalize hA:(L.all fun f=>decide (f.2.2=0\/f.2.2=1))=A
 unfold dn_is_laying m_is_laying
 simp [noOw,check_floor_d hF]
 rw [if_pos (by omega),compL_map dF (fun f:Fl=>D.bl (decide (f.2.2=0\/f.2.2=1))) L (fun f hf=>⟨_,rfl,by
  have hin:fIn (.int f.2.2) (.tup [.int 0,.int 1])=some (.bl (decide (f.2.2=0\/f.2.2=1))):=by
   show some (D.bl _)=_
   congr 2
   simp [eqb]
   by_cases h0:f.2.2=0<;>by_cases h1:f.2.2=1<;>simp [h0,h1]<;>omega
  simp [clr,hin]⟩)]
 simp only [R.ok_bind]
 rw [fAll_m (fun f:Fl=>decide (f.2.2=0\/f.2.2=1)),hA]
 cases A with
 | true=>simp [are_in_order_d L (by omega),all_under_d L hl]
 | false=>simp
theorem inOrd_of {L:List Fl} (h:L.Pairwise fun a b=>Slt (pos2 a) (pos2 b)):inOrd L=true:=by
 unfold inOrd
 rw [List.all_eq_true]
 intro p hp
 obtain ⟨i,hi,e⟩:=List.mem_iff_getElem.mp hp
 rw [List.pairwise_iff_getElem] at h
 simp at hi
 have:=h i (i + 1) (by omega) (by omega) (by omega)
 rw [<-e]
 simp only [List.getElem_zip,List.getElem_drop,Nat.add_comm 1 i]
 simpa using this
theorem Lay.len {F:List Sq} {L:List Fl} (h:Lay F L):(cover L).length=F.length:=h.cov.length_eq
theorem is_laying_t {F:List Sq} (hF:IsFloor F) {L:List Fl} (h:Lay F L) (hl:F.length < 65):dn_is_laying [dL F,dFL L]=.ok (.bl true):=by
 rw [is_laying_d hF L (by rw [h.len]; exact hl),inOrd_of h.ord,sortS_of hF.ord h.cov]
 have:(L.all fun f=>decide (f.2.2=0\/f.2.2=1))=true:=by
  rw [List.all_eq_true]; intro f hf; simpa using h.way f hf
 rw [this]
 simp
theorem check_laying_t {F:List Sq} (hF:IsFloor F) {L:List Fl} (h:Lay F L) (hl:F.length < 65):dn_check_laying [dL F,dFL L]=.ok .non:=by
 unfold dn_check_laying m_check_laying
 simp [is_laying_t hF h hl]
theorem laid_step (s0 s1 t10 t11 t12 t13:Sl) (high wide top left nb k:Int) (S:List Sq) (L:List Fl) (hw:0 < wide) (hw2:wide < 1073741824) (lS:S.length < 1000) (lL:L.length < 1000) :
  (∃ u12 u13,b_law_laid_1 [s0,s1,.fz (.int high),.fz (.int wide),.fz (.int top),.fz (.int left),.fz (.int nb),.ow (dD S),.ow (dFL L),.fz (.int k),t10,t11,t12,t13] =
   .ok (.nx [s0,s1,.fz (.int high),.fz (.int wide),.fz (.int top),.fz (.int left),.fz (.int (nb * 48271 % 2147483647)),.ow (dD S),.ow (dFL L),.fz (.int k),.fz (.int (top + k / wide)),.fz (.int (left + k % wide)),u12,u13])) ∨
  (∃ lies u12 u13,(lies=0/\left + k % wide + 1 < left + wide/\(top + k / wide,left + k % wide + 1) ∉ S\/lies=1/\top + k / wide + 1 < top + high)/\(top + k / wide,left + k % wide) ∉ S ∧
   b_law_laid_1 [s0,s1,.fz (.int high),.fz (.int wide),.fz (.int top),.fz (.int left),.fz (.int nb),.ow (dD S),.ow (dFL L),.fz (.int k),t10,t11,t12,t13] =
   .ok (.nx [s0,s1,.fz (.int high),.fz (.int wide),.fz (.int top),.fz (.int left),.fz (.int (nb * 48271 % 2147483647)),
    .ow (.dic (dput (dput (S.map fun s=>([s.1,s.2],D.bl true)) [top + k / wide,left + k % wide] (.bl true)) [top + k / wide + lies,left + k % wide + 1 - lies] (.bl true))),
    .ow (dFL (L++[(top + k / wide,left + k % wide,lies)])),.fz (.int k),.fz (.int (top + k / wide)),.fz (.int (left + k % wide)),u12,u13])):=by
 generalize hr:top + k / wide=row
 generalize hc:left + k % wide=col
 generalize hn:nb * 48271 % 2147483647=nc
 let P:R Out->Prop:=fun x=>(∃ u12 u13,x=.ok (.nx [s0,s1,.fz (.int high),.fz (.int wide),.fz (.int top),.fz (.int left),.fz (.int nc),.ow (dD S),.ow (dFL L),.fz (.int k),.fz (.int row),.fz (.int col),u12,u13])) ∨
  (∃ lies u12 u13,(lies=0/\col + 1 < left + wide/\(row,col + 1) ∉ S\/lies=1/\row + 1 < top + high)/\(row,col) ∉ S ∧
   x=.ok (.nx [s0,s1,.fz (.int high),.fz (.int wide),.fz (.int top),.fz (.int left),.fz (.int nc),
    .ow (.dic (dput (dput (S.map fun s=>([s.1,s.2],D.bl true)) [row,col] (.bl true)) [row + lies,col + 1 - lies] (.bl true))),
    .ow (dFL (L++[(row,col,lies)])),.fz (.int k),.fz (.int row),.fz (.int col),u12,u13]))
 show P (b_law_laid_1 _)
 unfold b_law_laid_1
 have l1:S.length < 1000000:=Nat.lt_trans lS (by decide)
 have l2:L.length < 1000000:=Nat.lt_trans lL (by decide)
 have lp:(dput (S.map fun s=>([s.1,s.2],D.bl true)) [row,col] (.bl true)).length < 1000000:=by
  unfold dput
  split<;>simp<;>omega
 refine seqP [s0,s1,.fz (.int high),.fz (.int wide),.fz (.int top),.fz (.int left),.fz (.int nb),.ow (dD S),.ow (dFL L),.fz (.int k),.fz (.int row),t11,t12,t13] P (by simp [hw,hw2,hr]) ?_
 refine seqP [s0,s1,.fz (.int high),.fz (.int wide),.fz (.int top),.fz (.int left),.fz (.int nb),.ow (dD S),.ow (dFL L),.fz (.int k),.fz (.int row),.fz (.int col),t12,t13] P (by simp [hw,hw2,hc]) ?_
 refine seqP [s0,s1,.fz (.int high),.fz (.int wide),.fz (.int top),.fz (.int left),.fz (.int nc),.ow (dD S),.ow (dFL L),.fz (.int k),.fz (.int row),.fz (.int col),t12,t13] P (by simp [hn]) ?_
 refine seqP [s0,s1,.fz (.int high),.fz (.int wide),.fz (.int top),.fz (.int left),.fz (.int nc),.ow (dD S),.ow (dFL L),.fz (.int k),.fz (.int row),.fz (.int col),.ow (.lst []),t13] P (by simp) ?_
 have put:∀ (fr:List D) (q:Int) (lies:Int),fMod (.int (nc / 64)) (.int fr.length)=some (.int q)->fIx (.lst fr) (.int q)=some (.int lies)->0 < fr.length->(lies=0/\col + 1 < left + wide/\(row,col + 1) ∉ S\/lies=1/\row + 1 < top + high)->(row,col) ∉ S->P (xIf (tstB (e2 fGt (e1 fLen (vE 12)) (kE (.int 0)))) (xSeq (xSet 13 (e2 fIx (vE 12) (e2 fMod (e2 fDiv (vE 6) (kE (.int 64))) (e1 fLen (vE 12))))) (xSeq (xApp 8 (eTup (aCons (vF 10) (aCons (vF 11) (aCons (vF 13) (aNil)))))) (xSeq (xDput 7 (eTup (aCons (vF 10) (aCons (vF 11) (aNil)))) (kE (.bl true))) (xDput 7 (eTup (aCons (e2 fAdd (vE 10) (vE 13)) (aCons (e2 fSub (e2 fAdd (vE 11) (kE (.int 1))) (vE 13)) (aNil)))) (kE (.bl true)))))) (xNil)
   [s0,s1,.fz (.int high),.fz (.int wide),.fz (.int top),.fz (.int left),.fz (.int nc),.ow (dD S),.ow (dFL L),.fz (.int k),.fz (.int row),.fz (.int col),.ow (.lst fr),t13]):=fun fr q lies h1 h2 h3 h4 h5=>by
  refine .inr ⟨lies,.ow (.lst fr),.fz (.int lies),h4,h5,?_⟩
  simp only [xIf_e]
  rw [show tstB (e2 fGt (e1 fLen (vE 12)) (kE (.int 0))) [s0,s1,.fz (.int high),.fz (.int wide),.fz (.int top),.fz (.int left),.fz (.int nc),.ow (dD S),.ow (dFL L),.fz (.int k),.fz (.int row),.fz (.int col),.ow (.lst fr),t13]=.ok true by simp; exact h3]
  simp only [R.ok_bind,if_true]
  refine seq_nx (E':=[s0,s1,.fz (.int high),.fz (.int wide),.fz (.int top),.fz (.int left),.fz (.int nc),.ow (dD S),.ow (dFL L),.fz (.int k),.fz (.int row),.fz (.int col),.ow (.lst fr),.fz (.int lies)]) (by simp [-fIx_l,h1,h2]) ?_
  simp [l1,l2,lp]
 have nil:P (xIf (tstB (e2 fGt (e1 fLen (vE 12)) (kE (.int 0)))) (xSeq (xSet 13 (e2 fIx (vE 12) (e2 fMod (e2 fDiv (vE 6) (kE (.int 64))) (e1 fLen (vE 12))))) (xSeq (xApp 8 (eTup (aCons (vF 10) (aCons (vF 11) (aCons (vF 13) (aNil)))))) (xSeq (xDput 7 (eTup (aCons (vF 10) (aCons (vF 11) (aNil)))) (kE (.bl true))) (xDput 7 (eTup (aCons (e2 fAdd (vE 10) (vE 13)) (aCons (e2 fSub (e2 fAdd (vE 11) (kE (.int 1))) (vE 13)) (aNil)))) (kE (.bl true)))))) (xNil)
   [s0,s1,.fz (.int high),.fz (.int wide),.fz (.int top),.fz (.int left),.fz (.int nc),.ow (dD S),.ow (dFL L),.fz (.int k),.fz (.int row),.fz (.int col),.ow (.lst []),t13]):=.inl ⟨.ow (.lst []),t13,by simp⟩
 have one:∀ d:D,fMod (.int (nc / 64)) (.int ([d]:List D).length)=some (.int 0):=fun d=>by simp [Int.emod_one]
 by_cases hA:(row,col) ∉ S/\¬ nc / 8 % 8=5
 ·by_cases hB:col + 1 < left + wide/\(row,col + 1) ∉ S
  ·by_cases hC:row + 1 < top + high
   ·refine seqP [s0,s1,.fz (.int high),.fz (.int wide),.fz (.int top),.fz (.int left),.fz (.int nc),.ow (dD S),.ow (dFL L),.fz (.int k),.fz (.int row),.fz (.int col),.ow (.lst [.int 0,.int 1]),t13] P (by simp [hA,hB,hC]) ?_
    rcases Int.emod_two_eq (nc / 64) with h2 | h2
    ·exact put _ 0 0 (by simp [h2]) rfl (by decide) (.inl ⟨rfl,hB⟩) hA.1
    ·exact put _ 1 1 (by simp [h2]) rfl (by decide) (.inr ⟨rfl,hC⟩) hA.1
   ·exact seqP [s0,s1,.fz (.int high),.fz (.int wide),.fz (.int top),.fz (.int left),.fz (.int nc),.ow (dD S),.ow (dFL L),.fz (.int k),.fz (.int row),.fz (.int col),.ow (.lst [.int 0]),t13] P (by simp [hA,hB,hC]) (put _ 0 0 (one _) rfl (by decide) (.inl ⟨rfl,hB⟩) hA.1)
  ·have hB':¬ (col + 1 < left + wide)\/(row,col + 1) ∈ S:=by
    by_cases h:(row,col + 1) ∈ S
    ·exact .inr h
    ·exact .inl fun z=>hB ⟨z,h⟩
   by_cases hC:row + 1 < top + high
   ·refine seqP [s0,s1,.fz (.int high),.fz (.int wide),.fz (.int top),.fz (.int left),.fz (.int nc),.ow (dD S),.ow (dFL L),.fz (.int k),.fz (.int row),.fz (.int col),.ow (.lst [.int 1]),t13] P ?_ (put _ 0 1 (one _) rfl (by decide) (.inr ⟨rfl,hC⟩) hA.1)
    rcases hB' with h | h<;>simp [hA,h,hC]
   ·refine seqP [s0,s1,.fz (.int high),.fz (.int wide),.fz (.int top),.fz (.int left),.fz (.int nc),.ow (dD S),.ow (dFL L),.fz (.int k),.fz (.int row),.fz (.int col),.ow (.lst []),t13] P ?_ nil
    rcases hB' with h | h<;>simp [hA,h,hC]
 ·refine seqP [s0,s1,.fz (.int high),.fz (.int wide),.fz (.int top),.fz (.int left),.fz (.int nc),.ow (dD S),.ow (dFL L),.fz (.int k),.fz (.int row),.fz (.int col),.ow (.lst []),t13] P ?_ nil
  by_cases hA1:(row,col) ∈ S
  ·simp [hA1]
  ·have hA2:nc / 8 % 8=5:=by
    by_cases h:nc / 8 % 8=5
    ·exact h
    ·exact absurd ⟨hA1,h⟩ hA
   simp [hA1,hA2]
theorem laid_loop (s0 s1:Sl) (high wide top left nb:Int) (hw:0 < wide) (hw2:wide<=8) (hh:0 < high) (hh2:high<=8) (ht:0<=top) (hl:0<=left) (h1:top + high<=8) (h2:left + wide<=8) :
  ∃ (nb':Int) (L:List Fl) (t9 t10 t11 t12 t13:Sl),forL (gN 9) b_law_laid_1 ((rng 0 (high * wide)).map D.int) [s0,s1,.fz (.int high),.fz (.int wide),.fz (.int top),.fz (.int left),.fz (.int nb),.ow (.dic []),.ow (.lst []),.un,.un,.un,.un,.un] =
   .ok (.nx [s0,s1,.fz (.int high),.fz (.int wide),.fz (.int top),.fz (.int left),.fz (.int nb'),.ow (dD (cover L)),.ow (dFL L),t9,t10,t11,t12,t13])/\Drawn high wide top left (sortS (cover L)) L:=by
 have hn:high * wide<=64:=by
  have h1:high * wide<=8 * wide:=Int.mul_le_mul_of_nonneg_right hh2 (by omega)
  omega
 obtain ⟨E1,e1,nb',L,t9,t10,t11,t12,t13,rfl,hL⟩:=forL_pre (set:=gN 9) (b:=b_law_laid_1) D.int (fun (pre:List Int) E=>∃ (nb:Int) (L:List Fl) (t9 t10 t11 t12 t13:Sl),E=[s0,s1,.fz (.int high),.fz (.int wide),.fz (.int top),.fz (.int left),.fz (.int nb),.ow (dD (cover L)),.ow (dFL L),t9,t10,t11,t12,t13]/\LInv high wide top left pre L) (rng 0 (high * wide)) (by
  rintro pre k post epre E ⟨nb,L,t9,t10,t11,t12,t13,rfl,hL⟩
  refine ⟨_,rfl,?_⟩
  have lp:=rng_pre epre
  have lL:L.length < 1000:=by have:=hL.len; omega
  have lS:(cover L).length < 1000:=by
   have e:(cover L).length=2 * L.length:=by
    unfold cover; rw [List.length_flatMap]; simp only [cells,List.length_cons,List.length_nil,List.map_const',List.sum_replicate_nat]; omega
   have:=hL.len; omega
  have hk:∀ k' ∈ pre,k' < k:=fun k' hk'=>by
   have:=rng_pairwise 0 (high * wide)
   rw [epre,List.pairwise_append] at this
   exact this.2.2 k' hk' k (by simp)
  rcases laid_step s0 s1 t10 t11 t12 t13 high wide top left nb k (cover L) L hw (by omega) lS lL with ⟨u12,u13,e⟩ | ⟨lies,u12,u13,hc,hp,e⟩
  ·exact goes_mk ⟨_,L,_,_,_,_,_,rfl,hL.same k⟩ e
  ·obtain ⟨hL',hm,hn,hne⟩:=hL.new hw hk hc hp
   refine goes_mk ⟨nb * 48271 % 2147483647,_,.fz (.int k),.fz (.int (top + k / wide)),.fz (.int (left + k % wide)),u12,u13,rfl,hL'⟩ (e.trans ?_)
   rw [cover_app]
   have e1:=dput_D (top + k / wide,left + k % wide) (cover L) hp
   have e2:=dput_D (mate (top + k / wide,left + k % wide,lies)) (cover L++[(top + k / wide,left + k % wide)]) (by
    simp only [List.mem_append,List.mem_singleton,not_or]
    exact ⟨hn,hne⟩)
   rw [e1]
   rw [hm] at e2 ⊢
   rw [e2]
   simp [pos2]) [s0,s1,.fz (.int high),.fz (.int wide),.fz (.int top),.fz (.int left),.fz (.int nb),.ow (.dic []),.ow (.lst []),.un,.un,.un,.un,.un] ⟨nb,[],_,_,_,_,_,rfl,⟨by simp,by simp,by simp,by simp [cover],by simp⟩⟩
 exact ⟨nb',L,t9,t10,t11,t12,t13,e1,hL.drawn hw hh ht hl h1 h2⟩
theorem law_laid_d (ns:List Int):∃ (F:List Sq) (L:List Fl),dn_law_laid [.scr ns]=.ok (.tup [dL F,dFL L])/\IsFloor F/\Lay F L/\F.length<=64:=by
 unfold dn_law_laid m_law_laid
 have c0:dn_law_cell_at [.scr ns,.int 0]=_:=cell_d ns 0
 have c1:dn_law_cell_at [.scr ns,.int 1]=_:=cell_d ns 1
 generalize ns.getD 0 0=head at c0
 generalize ns.getD 1 0=num at c1
 generalize hh:1 + head % 8=high
 generalize hw:1 + head / 8 % 8=wide
 have bh:1<=high/\high<=8:=by omega
 have bw:1<=wide/\wide<=8:=by omega
 generalize ht:head / 64 % (9 - high)=top
 generalize hl:head / 512 % (9 - wide)=left
 have bt:0<=top/\top < 9 - high:=by rw [<-ht]; exact ⟨Int.emod_nonneg _ (by omega),Int.emod_lt_of_pos _ (by omega)⟩
 have bl:0<=left/\left < 9 - wide:=by rw [<-hl]; exact ⟨Int.emod_nonneg _ (by omega),Int.emod_lt_of_pos _ (by omega)⟩
 have hn:high * wide<=64:=by
  have h1:high * wide<=8 * wide:=Int.mul_le_mul_of_nonneg_right bh.2 (by omega)
  omega
 have hn0:0<=high * wide:=Int.mul_nonneg (by omega) (by omega)
 generalize hnum:1 + num % 2147483646=number
 obtain ⟨nb',L,t9,t10,t11,t12,t13,e1,hD⟩:=laid_loop (.fz (.scr ns)) (.fz (.int head)) high wide top left number (by omega) (by omega) (by omega) (by omega) bt.1 bl.1 (by omega) (by omega)
 refine ⟨_,L,?_,hD.fl,hD.lay,by have:=hD.len; omega⟩
 have hm:high.natAbs < 9223372036854775808:=by omega
 have hmm:(high * wide).natAbs < 1000000:=by omega
 have h9:high < 9:=by omega
 have h9':wide < 9:=by omega
 have ls:(cover L).length < 65:=by
  have:=hD.len
  have:=hD.lay.len
  omega
 simp [c0,c1,hh,hw,ht,hl,hnum,hm,h9,h9',hmm,e1,frz_e,fSortD_D65 _ ls]
theorem forL_nx {set:D->Ev->Option Ev} {b:EX} {d:D} {ds:List D} {E E1 E2:Ev} (h1:set d E=some E1) (h2:b E1=.ok (.nx E2)):forL set b (d :: ds) E=forL set b ds E2:=by
 show (match set d E with
  | none=>_
  | some E1=>_)=_
 rw [h1]
 show (b E1 >>= _)=_
 rw [h2]
 rfl
theorem s60:("<":Str)=⟨#[60]⟩:=by decide +kernel
theorem s62:(">":Str)=⟨#[62]⟩:=by decide +kernel
theorem s94:("^":Str)=⟨#[94]⟩:=by decide +kernel
theorem s118:("v":Str)=⟨#[118]⟩:=by decide +kernel
theorem s46:(".":Str)=⟨#[46]⟩:=by decide +kernel
theorem s10:("\n":Str)=⟨#[10]⟩:=by decide +kernel
theorem put_ok {i:Nat} {mk mv:EV} {E:Ev} {kvs:List (List Int × D)} {q:Sq} {v:D} (h:E[i]?=some (.ow (.dic kvs))) (hk:mk E=.ok (dS q)) (hv:mv E=.ok v) (hl:kvs.length < 1000000):xDput i mk mv E=.ok (.nx (E.set i (.ow (.dic (dput kvs [q.1,q.2] v))))):=by
 rw [xDput_e,h]
 simp only [hk,hv,R.ok_bind]
 rw [show keyOf (dS q)=some [q.1,q.2] from rfl]
 exact if_pos hl
theorem sD_len (ps:List (Sq × Nat)):(sD ps).length=ps.length:=List.length_map ..
theorem sgL_len (L:List Fl):(sgL L).length=2 * L.length:=by
 unfold sgL
 induction L with
 | nil=>rfl
 | cons f r ih=>rw [List.flatMap_cons,List.length_append,ih]; simp; omega
theorem sg_fresh {L pre post:List Fl} {f:Fl} (n:(cover L).Nodup) (e:L=pre++f :: post):pos2 f ∉ (sgL pre).map (·.1)/\mate f ∉ (sgL pre++[(pos2 f,sg0 f.2.2)]).map (·.1):=by
 rw [List.map_append,sg_keys]
 rw [e] at n
 unfold cover at n
 rw [List.flatMap_append,List.flatMap_cons] at n
 have n2:=List.nodup_append.mp n
 have n3:=n2.2.2
 have n4:(cells f).Nodup:=(List.nodup_append.mp n2.2.1).1
 refine ⟨fun z=>n3 _ z _ (List.mem_append_left _ (by unfold cells; simp)) rfl,fun z=>?_⟩
 rcases List.mem_append.mp z with z | z
 ·exact n3 _ z _ (List.mem_append_left _ (by unfold cells; simp)) rfl
 ·unfold cells at n4
  rw [List.nodup_cons] at n4
  have z:mate f ∈ [pos2 f]:=z
  exact n4.1 (by rw [List.mem_singleton.mp z]; simp)
theorem signs_w {w:Int} (h:w=0\/w=1):signs w=some [⟨#[sg0 w]⟩,⟨#[sg1 w]⟩]:=by
 rcases h with rfl | rfl
 ·show some _=_; rw [s60,s62]; rfl
 ·show some _=_; rw [s94,s118]; rfl
theorem written_step {L pre post:List Fl} {f:Fl} {t3 t4 x5 x6 x7:Sl} (n:(cover L).Nodup) (lL:L.length<=1000) (hw:f.2.2=0\/f.2.2=1) (e:L=pre++f :: post) :
  b_written_1 [.fz (dFL L),.ow (.dic (sD (sgL pre))),.fz (dF f),t3,t4,x5,x6,x7]=.ok (.nx [.fz (dFL L),.ow (.dic (sD (sgL (pre++[f])))),.fz (dF f),.fz (dS (mate f)),.fz (.str ⟨#[sg1 f.2.2]⟩),x5,x6,x7]):=by
 obtain ⟨f1,f2⟩:=sg_fresh n e
 have lp:pre.length < 1000:=by rw [e] at lL; simp at lL; omega
 have iz:iZs (eCall 1 dn_squares_under (aCons (vF 2) (aNil))) (e2 fIx (vE 2) (kE (.int 2))) [.fz (dFL L),.ow (.dic (sD (sgL pre))),.fz (dF f),t3,t4,x5,x6,x7]=.ok [.tup [dS (pos2 f),.str ⟨#[sg0 f.2.2]⟩],.tup [dS (mate f),.str ⟨#[sg1 f.2.2]⟩]]:=by
  have h1:eCall 1 dn_squares_under (aCons (vF 2) (aNil)) [.fz (dFL L),.ow (.dic (sD (sgL pre))),.fz (dF f),t3,t4,x5,x6,x7]=.ok (dL (cells f)):=by simp [squares_under_d]
  have h2:e2 fIx (vE 2) (kE (.int 2)) [.fz (dFL L),.ow (.dic (sD (sgL pre))),.fz (dF f),t3,t4,x5,x6,x7]=.ok (.int f.2.2):=rfl
  unfold iZs
  rw [h1,h2]
  simp only [R.ok_bind]
  show (match signs f.2.2 with
   | some zs=>R.ok (List.zipWith (fun a b=>D.tup [a,.str b]) ((cells f).map dS) zs)
   | none=>.no)=_
  rw [signs_w hw]
  rfl
 unfold b_written_1
 rw [xFor_e,iz]
 simp only [R.ok_bind]
 rw [forL_nx (set:=gT 3 4) (E1:=[.fz (dFL L),.ow (.dic (sD (sgL pre))),.fz (dF f),.fz (dS (pos2 f)),.fz (.str ⟨#[sg0 f.2.2]⟩),x5,x6,x7]) (E2:=[.fz (dFL L),.ow (.dic (sD (sgL pre++[(pos2 f,sg0 f.2.2)]))),.fz (dF f),.fz (dS (pos2 f)),.fz (.str ⟨#[sg0 f.2.2]⟩),x5,x6,x7]) rfl
  (by unfold b_written_2; rw [put_ok (kvs:=sD (sgL pre)) (q:=pos2 f) (v:=.str ⟨#[sg0 f.2.2]⟩) rfl rfl rfl (by rw [sD_len,sgL_len]; omega),dput_s f1]; rfl)]
 rw [forL_nx (set:=gT 3 4) (E1:=[.fz (dFL L),.ow (.dic (sD (sgL pre++[(pos2 f,sg0 f.2.2)]))),.fz (dF f),.fz (dS (mate f)),.fz (.str ⟨#[sg1 f.2.2]⟩),x5,x6,x7]) (E2:=[.fz (dFL L),.ow (.dic (sD (sgL (pre++[f])))),.fz (dF f),.fz (dS (mate f)),.fz (.str ⟨#[sg1 f.2.2]⟩),x5,x6,x7]) rfl
  (by unfold b_written_2; rw [put_ok (kvs:=sD (sgL pre++[(pos2 f,sg0 f.2.2)])) (q:=mate f) (v:=.str ⟨#[sg1 f.2.2]⟩) rfl rfl rfl (by rw [sD_len,List.length_append,sgL_len]; simp; omega),dput_s f2,sg_app,List.append_assoc]; rfl)]
 rfl
theorem get_gr (L:List Fl) (r c:Nat):(dget (sD (sgL L)) [(r:Int),(c:Int)]).getD (.str ".")=.str ⟨#[gr L r c]⟩:=by
 rw [show ([(r:Int),(c:Int)]:List Int)=[((r:Int),(c:Int)).1,((r:Int),(c:Int)).2] from rfl,dget_s,s46]
 unfold gr
 cases look (sgL L) ((r:Int),(c:Int))<;>rfl
theorem dStrs_map:∀ zs:List Str,dStrs (zs.map D.str)=some zs
 | []=>rfl
 | z :: zs=>by
  show (dStrs (zs.map D.str)).map _=_
  rw [dStrs_map zs]; rfl
theorem join_d {sep:Str} {zs:List Str} (h1:sep.length<=16) (h2:(zs.map (·.length)).sum + zs.length<=1048576):fJoin (.str sep) (.lst (zs.map D.str))=some (.str (Str.join sep zs)):=by
 show ((dStrs (zs.map D.str)).bind fun ys=>if sep.length<=16/\(ys.map (·.length)).sum + ys.length<=1048576 then some (D.str (Txt.join sep ys)) else none)=_
 rw [dStrs_map]
 show (if _ then _ else _)=_
 rw [if_pos ⟨h1,h2⟩]
 unfold Txt.join
 rw [StrLaws.glued_eq_join]
theorem rng_nat (n:Nat):(rng 0 (n:Int)).map D.int=(List.range n).map fun (i:Nat)=>D.int (i:Int):=by
 unfold rng
 rw [List.map_map]
 simp [Function.comp_def]
noncomputable def rowS (L:List Fl) (r:Nat):Str:=⟨(rowL (gr L) r).toArray⟩
theorem row_join (L:List Fl) (r:Nat):Str.join "" ((List.range 8).map fun c=>(⟨#[gr L r c]⟩:Str))=rowS L r:=by
 refine str_l ?_
 rw [join0_l]
 simp [rowS,rowL,List.range,List.range.loop]
theorem written_row {L:List Fl} {r:Nat} {zs:List Str} {x0 x2 x3 x4 x7:Sl} (h7:noOw [7] [x0,.ow (.dic (sD (sgL L))),x2,x3,x4,.ow (.lst (zs.map D.str)),.fz (.int (r:Int)),x7]=true) (hz:zs.length<=8) :
  b_written_3 [x0,.ow (.dic (sD (sgL L))),x2,x3,x4,.ow (.lst (zs.map D.str)),.fz (.int (r:Int)),x7]=.ok (.nx [x0,.ow (.dic (sD (sgL L))),x2,x3,x4,.ow (.lst ((zs++[rowS L r]).map D.str)),.fz (.int (r:Int)),x7]):=by
 have ec:=compL_map (set:=gN 7) (me:=eGet (vE 1) (eTup (aCons (vF 6) (aCons (vF 7) (aNil)))) (kE (.str "."))) (E:=clr [7] [x0,.ow (.dic (sD (sgL L))),x2,x3,x4,.ow (.lst (zs.map D.str)),.fz (.int (r:Int)),x7]) (fun (c:Nat)=>D.int (c:Int)) (fun c=>D.str ⟨#[gr L r c]⟩) (List.range 8) (fun c _=>⟨_,rfl,by
  have:=get_gr L r c
  show (R.ok ((dget (sD (sgL L)) [(r:Int),(c:Int)]).getD (.str ".")))=_
  rw [this]⟩)
 have em:eComp [7] (gN 7) (iR1 (kE (.int 8))) tTrue (eGet (vE 1) (eTup (aCons (vF 6) (aCons (vF 7) (aNil)))) (kE (.str "."))) [x0,.ow (.dic (sD (sgL L))),x2,x3,x4,.ow (.lst (zs.map D.str)),.fz (.int (r:Int)),x7]=.ok (.lst (((List.range 8).map fun c=>(⟨#[gr L r c]⟩:Str)).map D.str)):=by
  unfold eComp
  rw [if_pos h7]
  have hi:iR1 (kE (.int 8)) [x0,.ow (.dic (sD (sgL L))),x2,x3,x4,.ow (.lst (zs.map D.str)),.fz (.int (r:Int)),x7]=.ok ((List.range 8).map fun (c:Nat)=>D.int (c:Int)):=by
   rw [<-rng_nat]; simp
  rw [hi]
  simp only [R.ok_bind]
  rw [if_pos (by rw [List.length_map,List.length_range]; decide),ec]
  simp only [R.ok_bind]
  rw [List.map_map]; rfl
 have ej:=join_d (sep:="") (zs:=(List.range 8).map fun c=>(⟨#[gr L r c]⟩:Str)) (by decide +kernel) (by show ([1,1,1,1,1,1,1,1]:List Nat).sum + 8<=1048576; decide)
 rw [row_join] at ej
 have eF:eJoin "" (eComp [7] (gN 7) (iR1 (kE (.int 8))) tTrue (eGet (vE 1) (eTup (aCons (vF 6) (aCons (vF 7) (aNil)))) (kE (.str ".")))) [x0,.ow (.dic (sD (sgL L))),x2,x3,x4,.ow (.lst (zs.map D.str)),.fz (.int (r:Int)),x7]=.ok (.str (rowS L r)):=by
  unfold eJoin
  rw [em]
  simp only [R.ok_bind]
  rw [ej]; rfl
 unfold b_written_3
 generalize eJoin "" (eComp [7] (gN 7) (iR1 (kE (.int 8))) tTrue (eGet (vE 1) (eTup (aCons (vF 6) (aCons (vF 7) (aNil)))) (kE (.str "."))))=mm at eF ⊢
 simp [eF,show zs.length < 1000000 by omega]
noncomputable def txS (L:List Fl):Str:=⟨(txL (gr L)).toArray⟩
theorem tx_join (L:List Fl):Str.join "\n" ((List.range 8).map (rowS L))=txS L:=by
 refine str_l ?_
 rw [s10,join_l,List.map_map]; rfl
theorem rowS_len (L:List Fl) (r:Nat):(rowS L r).length=8:=rfl
theorem written_d {L:List Fl} (n:(cover L).Nodup) (lL:L.length<=1000) (hw:∀ f ∈ L,f.2.2=0\/f.2.2=1):dn_written [dFL L]=.ok (.str (txS L)):=by
 obtain ⟨E1,e1,t2,t3,t4,rfl,-⟩:=forL_pre (set:=gN 2) (b:=b_written_1) dF (fun (pre:List Fl) E=>∃ t2 t3 t4,E=[.fz (dFL L),.ow (.dic (sD (sgL pre))),t2,t3,t4,.un,.un,.un]/\True) L (by
  rintro pre f post epre E ⟨t2,t3,t4,rfl,-⟩
  refine ⟨_,rfl,?_⟩
  exact goes_mk ⟨_,_,_,rfl,trivial⟩ (written_step n lL (hw f (by rw [epre]; simp)) epre)) [.fz (dFL L),.ow (.dic (sD (sgL []))),.un,.un,.un,.un,.un,.un] ⟨_,_,_,rfl,trivial⟩
 obtain ⟨E2,e2,t6,rfl⟩:=forL_pre (set:=gN 6) (b:=b_written_3) (fun (r:Nat)=>D.int (r:Int)) (fun (pre:List Nat) E=>∃ t6,E=[.fz (dFL L),.ow (.dic (sD (sgL L))),t2,t3,t4,.ow (.lst ((pre.map (rowS L)).map D.str)),t6,.un]) (List.range 8) (by
  rintro pre r post epre E ⟨t6,rfl⟩
  refine ⟨_,rfl,?_⟩
  have lp:pre.length<=8:=by have:=congrArg List.length epre; simp at this; omega
  refine goes_mk (E:=[.fz (dFL L),.ow (.dic (sD (sgL L))),t2,t3,t4,.ow (.lst (((pre++[r]).map (rowS L)).map D.str)),.fz (.int (r:Int)),.un]) ⟨_,rfl⟩ ?_
  have:=written_row (L:=L) (r:=r) (zs:=pre.map (rowS L)) (x0:=.fz (dFL L)) (x2:=t2) (x3:=t3) (x4:=t4) (x7:=.un) rfl (by simpa using lp)
  rw [List.map_append]
  exact this) [.fz (dFL L),.ow (.dic (sD (sgL L))),t2,t3,t4,.ow (.lst []),.un,.un] ⟨_,rfl⟩
 have ej:=join_d (sep:="\n") (zs:=(List.range 8).map (rowS L)) (by decide +kernel) (by show ([8,8,8,8,8,8,8,8]:List Nat).sum + 8<=1048576; decide)
 rw [tx_join] at ej
 show ended (m_written [.fz (dFL L),.un,.un,.un,.un,.un,.un,.un])=_
 have key:m_written [.fz (dFL L),.un,.un,.un,.un,.un,.un,.un]=.ok (.rt (.str (txS L))):=by
  unfold m_written
  refine seq_nx (E':=[.fz (dFL L),.ow (.dic (sD (sgL []))),.un,.un,.un,.un,.un,.un]) rfl ?_
  refine seq_nx (E':=[.fz (dFL L),.ow (.dic (sD (sgL L))),t2,t3,t4,.un,.un,.un]) (by rw [xFor_e]; exact e1) ?_
  refine seq_nx (E':=[.fz (dFL L),.ow (.dic (sD (sgL L))),t2,t3,t4,.ow (.lst []),.un,.un]) rfl ?_
  refine seq_nx (by
   rw [xFor_e]
   rw [show iR1 (kE (.int 8)) [.fz (dFL L),.ow (.dic (sD (sgL L))),t2,t3,t4,.ow (.lst []),.un,.un]=.ok ((List.range 8).map fun (r:Nat)=>D.int (r:Int)) by rw [<-rng_nat]; simp]
   exact e2) ?_
  show ((R.ok (D.lst (((List.range 8).map (rowS L)).map D.str)) >>= fun y=>ofO (fJoin (.str "\n") y)) >>= fun d=>R.ok (Out.rt d))=_
  simp only [R.ok_bind]
  rw [ej]; rfl
 rw [key]; rfl
theorem then_nx {m n:EX} {E E':Ev} {r:R Out} (h:m E=.ok (.nx E')) (h2:n E'=r):xThen m n E=r:=by
 unfold xThen; rw [h]; exact h2
theorem fEq_s (a b:Str):fEq (.str a) (.str b)=some (.bl (decide (a=b))):=by
 show some (D.bl (a == b))=_
 congr 2
theorem fNe_s (a b:Str):fNe (.str a) (.str b)=some (.bl (!(decide (a=b)))):=by
 show some (D.bl (!(a == b)))=_
 congr 3
theorem one_eq {x y:Nat}:((⟨#[x]⟩:Str)=⟨#[y]⟩) ↔ x=y:=by
 constructor
 ·intro h; injection h with h; simpa using h
 ·rintro rfl; rfl
theorem text_step {L pre post:List Fl} {f:Fl} {t3 t4:Sl} (n:(cover L).Nodup) (lL:L.length<=1000) (hw:f.2.2=0\/f.2.2=1) (e:L=pre++f :: post) :
  b_law_text_1 [.fz (dFL L),.ow (.dic (sD (sgL pre))),.fz (dF f),t3,t4]=.ok (.nx [.fz (dFL L),.ow (.dic (sD (sgL (pre++[f])))),.fz (dF f),t3,t4]):=by
 obtain ⟨f1,f2⟩:=sg_fresh n e
 have lp:pre.length < 1000:=by rw [e] at lL; simp at lL; omega
 have v1:ofO (atI [D.str "<",D.str "^"] f.2.2)=.ok (.str ⟨#[sg0 f.2.2]⟩):=by
  rcases hw with h | h
  ·rw [h,show sg0 0=60 from rfl,<-s60]; rfl
  ·rw [h,show sg0 1=94 from rfl,<-s94]; rfl
 have v2:ofO (atI [D.str ">",D.str "v"] f.2.2)=.ok (.str ⟨#[sg1 f.2.2]⟩):=by
  rcases hw with h | h
  ·rw [h,show sg1 0=62 from rfl,<-s62]; rfl
  ·rw [h,show sg1 1=118 from rfl,<-s118]; rfl
 have mt:(f.1 + f.2.2,f.2.1 + 1 - f.2.2)=mate f:=by
  unfold mate
  rcases hw with e | e<;>rw [e]<;>simp
 unfold b_law_text_1
 refine seq_nx (E':=[.fz (dFL L),.ow (.dic (sD (sgL pre++[(pos2 f,sg0 f.2.2)]))),.fz (dF f),t3,t4]) ?_ ?_
 ·rw [put_ok (kvs:=sD (sgL pre)) (q:=pos2 f) (v:=.str ⟨#[sg0 f.2.2]⟩) rfl rfl v1 (by rw [sD_len,sgL_len]; omega),dput_s f1]; rfl
 ·rw [put_ok (kvs:=sD (sgL pre++[(pos2 f,sg0 f.2.2)])) (q:=mate f) (v:=.str ⟨#[sg1 f.2.2]⟩) rfl (by rw [<-mt]; rfl) v2 (by rw [sD_len,List.length_append,sgL_len]; simp; omega),dput_s f2,sg_app,List.append_assoc]; rfl
theorem fAdd_s {a b:Str} (h:a.length + b.length<=1000000):fAdd (.str a) (.str b)=some (.str (a++b)):=if_pos h
theorem text_cell {L:List Fl} {pre:List Nat} {k:Nat} {x0 x2:Sl} (lp:pre.length<=64) :
  b_law_text_2 [x0,.ow (.dic (sD (sgL L))),x2,.fz (.str ⟨(tl (gr L) pre).toArray⟩),.fz (.int (k:Int))]=.ok (.nx [x0,.ow (.dic (sD (sgL L))),x2,.fz (.str ⟨(tl (gr L) (pre++[k])).toArray⟩),.fz (.int (k:Int))]):=by
 obtain ⟨P,hP⟩:∃ P:List Nat,P=(if 0 < k/\k % 8=0 then [10] else []):=⟨_,rfl⟩
 have lP:P.length<=1:=by rw [hP]; split<;>simp
 have lt:=tl_len (gr L) pre
 have en:tl (gr L) (pre++[k])=(tl (gr L) pre++P)++[gr L (k / 8) (k % 8)]:=by
  unfold tl
  rw [List.flatMap_append,hP]
  simp [tlK]
 have ek:∀ T:Str,eTup (aCons (e2 fDiv (vE 4) (kE (.int 8))) (aCons (e2 fMod (vE 4) (kE (.int 8))) (aNil))) [x0,.ow (.dic (sD (sgL L))),x2,.fz (.str T),.fz (.int (k:Int))]=.ok (dS (up (k / 8,k % 8))):=fun T=>rfl
 unfold b_law_text_2
 refine seq_nx (E':=[x0,.ow (.dic (sD (sgL L))),x2,.fz (.str ⟨(tl (gr L) pre++P).toArray⟩),.fz (.int (k:Int))]) ?_ ?_
 ·by_cases h:0 < k/\k % 8=0
  ·rw [if_pos h] at hP
   have ha:=fAdd_s (a:=⟨(tl (gr L) pre).toArray⟩) (b:="\n") (by rw [s10]; show (tl (gr L) pre).toArray.size + 1<=_; simp; omega)
   have hT:(⟨(tl (gr L) pre).toArray⟩:Str)++("\n":Str)=⟨(tl (gr L) pre++P).toArray⟩:=str_l (by rw [app_l,s10,hP])
   rw [hT] at ha
   have h8:(k:Int) % 8=0:=by omega
   simp [h.1,h8,ha]
  ·rw [if_neg h] at hP
   rw [hP,List.append_nil]
   by_cases h0:0 < k
   ·have h8:¬ (k:Int) % 8=0:=fun z=>h ⟨h0,by omega⟩
    simp [h0,h8]
   ·simp [h0]
 ·rw [en]
  generalize hQ:tl (gr L) pre++P=Q
  have lQ:Q.length<=200:=by rw [<-hQ,List.length_append]; omega
  have hg:gr L (k / 8) (k % 8)=(look (sgL L) (up (k / 8,k % 8))).getD 46:=rfl
  have hin:fDin (dS (up (k / 8,k % 8))) (.dic (sD (sgL L)))=some (.bl (look (sgL L) (up (k / 8,k % 8))).isSome):=by
   show some (D.bl (dget (sD (sgL L)) [(up (k / 8,k % 8)).1,(up (k / 8,k % 8)).2]).isSome)=_
   rw [dget_s,Option.isSome_map]
  have hget:fDget (.dic (sD (sgL L))) (dS (up (k / 8,k % 8)))=(look (sgL L) (up (k / 8,k % 8))).map fun c=>D.str ⟨#[c]⟩:=by
   show dget (sD (sgL L)) [(up (k / 8,k % 8)).1,(up (k / 8,k % 8)).2]=_
   rw [dget_s]
  have add:∀ c:Nat,fAdd (.str ⟨Q.toArray⟩) (.str ⟨#[c]⟩)=some (.str ⟨(Q++[c]).toArray⟩):=fun c=>by
   rw [fAdd_s (by show Q.toArray.size + 1<=_; simp; omega)]
   congr 2
   exact str_l (by rw [app_l])
  have tin:tstB (e2 fDin (eTup (aCons (e2 fDiv (vE 4) (kE (.int 8))) (aCons (e2 fMod (vE 4) (kE (.int 8))) (aNil)))) (vE 1)) [x0,.ow (.dic (sD (sgL L))),x2,.fz (.str ⟨Q.toArray⟩),.fz (.int (k:Int))]=.ok (look (sgL L) (up (k / 8,k % 8))).isSome:=by
   refine tst_ok ?_
   rw [e2_e,ek]
   simp only [R.ok_bind]
   show ofO (fDin (dS (up (k / 8,k % 8))) (.dic (sD (sgL L))))=_
   rw [hin]; rfl
  rw [xIf_e,tin,hg]
  cases hl:look (sgL L) (up (k / 8,k % 8)) with
  | none =>
   have:=add 46
   rw [<-s46] at this
   show (xSet 3 (e2 fAdd (vE 3) (kE (.str "."))) [x0,.ow (.dic (sD (sgL L))),x2,.fz (.str ⟨Q.toArray⟩),.fz (.int (k:Int))])=_
   refine (set_ok (d:=.str ⟨(Q++[46]).toArray⟩) ?_).trans rfl
   show ofO (fAdd (.str ⟨Q.toArray⟩) (.str "."))=_
   rw [this]; rfl
  | some c =>
   show (xSet 3 (e2 fAdd (vE 3) (e2 fDget (vE 1) (eTup (aCons (e2 fDiv (vE 4) (kE (.int 8))) (aCons (e2 fMod (vE 4) (kE (.int 8))) (aNil)))))) [x0,.ow (.dic (sD (sgL L))),x2,.fz (.str ⟨Q.toArray⟩),.fz (.int (k:Int))])=_
   refine (set_ok (d:=.str ⟨(Q++[c]).toArray⟩) ?_).trans rfl
   rw [e2_e,e2_e,ek]
   show (ofO (fDget (.dic (sD (sgL L))) (dS (up (k / 8,k % 8)))) >>= fun y=>ofO (fAdd (.str ⟨Q.toArray⟩) y))=_
   rw [hget,hl]
   show ofO (fAdd (.str ⟨Q.toArray⟩) (.str ⟨#[c]⟩))=_
   rw [add]; rfl
theorem law_text_d {L:List Fl} (n:(cover L).Nodup) (lL:L.length<=1000) (hw:∀ f ∈ L,f.2.2=0\/f.2.2=1):dn_law_text [dFL L]=.ok (.str (txS L)):=by
 obtain ⟨E1,e1,t2,rfl⟩:=forL_pre (set:=gN 2) (b:=b_law_text_1) dF (fun (pre:List Fl) E=>∃ t2,E=[.fz (dFL L),.ow (.dic (sD (sgL pre))),t2,.un,.un]) L (by
  rintro pre f post epre E ⟨t2,rfl⟩
  refine ⟨_,rfl,?_⟩
  exact goes_mk ⟨_,rfl⟩ (text_step n lL (hw f (by rw [epre]; simp)) epre)) [.fz (dFL L),.ow (.dic (sD (sgL []))),.un,.un,.un] ⟨_,rfl⟩
 obtain ⟨E2,e2,t4,rfl⟩:=forL_pre (set:=gN 4) (b:=b_law_text_2) (fun (r:Nat)=>D.int (r:Int)) (fun (pre:List Nat) E=>∃ t4,E=[.fz (dFL L),.ow (.dic (sD (sgL L))),t2,.fz (.str ⟨(tl (gr L) pre).toArray⟩),t4]) (List.range 64) (by
  rintro pre k post epre E ⟨t4,rfl⟩
  refine ⟨_,rfl,?_⟩
  have lp:pre.length<=64:=by have:=congrArg List.length epre; simp at this; omega
  exact goes_mk ⟨_,rfl⟩ (text_cell lp)) [.fz (dFL L),.ow (.dic (sD (sgL L))),t2,.fz (.str ⟨(tl (gr L) []).toArray⟩),.un] ⟨_,rfl⟩
 rw [tl_all] at e2
 have key:m_law_text [.fz (dFL L),.un,.un,.un,.un]=.ok (.rt (.str (txS L))):=by
  unfold m_law_text
  refine seq_nx (E':=[.fz (dFL L),.ow (.dic (sD (sgL []))),.un,.un,.un]) rfl ?_
  refine seq_nx (E':=[.fz (dFL L),.ow (.dic (sD (sgL L))),t2,.un,.un]) (by rw [xFor_e]; exact e1) ?_
  refine seq_nx (E':=[.fz (dFL L),.ow (.dic (sD (sgL L))),t2,.fz (.str ⟨(tl (gr L) []).toArray⟩),.un]) (set_ok (d:=.str ⟨(tl (gr L) []).toArray⟩) (by show R.ok (D.str "")=_; rw [show ("":Str)=⟨#[]⟩ by decide +kernel]; rfl)) ?_
  refine seq_nx (by
   rw [xFor_e]
   rw [show iR1 (kE (.int 64)) [.fz (dFL L),.ow (.dic (sD (sgL L))),t2,.fz (.str ⟨(tl (gr L) []).toArray⟩),.un]=.ok ((List.range 64).map fun (r:Nat)=>D.int (r:Int)) from rfl]
   exact e2) ?_
  rfl
 show ended (m_law_text [.fz (dFL L),.un,.un,.un,.un])=_
 rw [key]; rfl
noncomputable def al (g:Nat->Nat->Nat) (p:Nat × Nat):Sq × Nat:=(up p,g p.1 p.2)
theorem up_inj {p q:Nat × Nat} (h:up p=up q):p=q:=by
 unfold up at h
 have h1:(p.1:Int)=q.1:=congrArg Prod.fst h
 have h2:(p.2:Int)=q.2:=congrArg Prod.snd h
 exact Prod.ext (by omega) (by omega)
theorem al_fresh {g:Nat->Nat->Nat} {ps:List (Nat × Nat)} {p:Nat × Nat} (h:p ∉ ps):up p ∉ (ps.map (al g)).map (·.1):=fun z=>by
 rw [List.map_map] at z
 obtain ⟨q,hq,e⟩:=List.mem_map.mp z
 have e:up q=up p:=e
 rw [up_inj e] at hq
 exact h hq
theorem pre_not {xs pre post:List Nat} {x:Nat} (n:xs.Nodup) (e:xs=pre++x :: post):x ∉ pre:=fun z=>by
 rw [e] at n
 exact (List.nodup_append.mp n).2.2 x z x (by simp) rfl
noncomputable def rws (pre:List Nat):List (Nat × Nat):=pre.flatMap fun r=>(List.range 8).map fun c=>(r,c)
theorem rws_len:∀ pre:List Nat,(rws pre).length=8 * pre.length
 | []=>rfl
 | r :: t=>by
  have:=rws_len t
  unfold rws at this ⊢
  rw [List.flatMap_cons,List.length_append,this,List.length_cons,List.length_map,List.length_range]
  omega
theorem signs_row {L:List Fl} {pre post:List Nat} {r:Nat} {x0 x1 t5' t6':Sl} (e:List.range 8=pre++r :: post) :
  ∃ t5 t6,b_signs_by_square_1 [x0,x1,.fz (.str (rowS L r)),.ow (.dic (sD ((rws pre).map (al (gr L))))),.fz (.int (r:Int)),t5',t6']=.ok (.nx [x0,x1,.fz (.str (rowS L r)),.ow (.dic (sD ((rws (pre++[r])).map (al (gr L))))),.fz (.int (r:Int)),t5,t6]):=by
 have rp:=pre_not List.nodup_range e
 have lp:pre.length<=8:=by have:=congrArg List.length e; simp at this; omega
 have lr:=rws_len pre
 obtain ⟨E1,e1,t5,t6,rfl⟩:=forL_pre (set:=gT 5 6) (b:=b_signs_by_square_2) (fun (c:Nat)=>D.tup [.int (c:Int),.str ⟨#[gr L r c]⟩]) (fun (cp:List Nat) E=>∃ t5 t6,E=[x0,x1,.fz (.str (rowS L r)),.ow (.dic (sD ((rws pre++cp.map fun c=>(r,c)).map (al (gr L))))),.fz (.int (r:Int)),t5,t6]) (List.range 8) (by
  rintro cp c cpost ec E ⟨t5,t6,rfl⟩
  refine ⟨_,rfl,?_⟩
  have cn:=pre_not List.nodup_range ec
  have lc:cp.length<=8:=by have:=congrArg List.length ec; simp at this; omega
  have fr:(r,c) ∉ rws pre++cp.map fun c=>(r,c):=fun z=>by
   rcases List.mem_append.mp z with z | z
   ·unfold rws at z
    obtain ⟨r',hr',z⟩:=List.mem_flatMap.mp z
    obtain ⟨c',_,z⟩:=List.mem_map.mp z
    rw [show r'=r from congrArg Prod.fst z] at hr'
    exact rp hr'
   ·obtain ⟨c',hc',z⟩:=List.mem_map.mp z
    rw [show c'=c from congrArg Prod.snd z] at hc'
    exact cn hc'
  refine goes_mk (E:=[x0,x1,.fz (.str (rowS L r)),.ow (.dic (sD ((rws pre++(cp++[c]).map fun c=>(r,c)).map (al (gr L))))),.fz (.int (r:Int)),.fz (.int (c:Int)),.fz (.str ⟨#[gr L r c]⟩)]) ⟨_,_,rfl⟩ ?_
  unfold b_signs_by_square_2
  rw [put_ok (kvs:=sD ((rws pre++cp.map fun c=>(r,c)).map (al (gr L)))) (q:=up (r,c)) (v:=.str ⟨#[gr L r c]⟩) rfl rfl rfl (by rw [sD_len,List.length_map,List.length_append,List.length_map,lr]; omega),dput_s (al_fresh fr)]
  rw [List.map_append (f:=fun c=>(r,c)),<-List.append_assoc,List.map_append (l₂:=List.map (fun c=>(r,c)) [c])]
  rfl) [x0,x1,.fz (.str (rowS L r)),.ow (.dic (sD ((rws pre).map (al (gr L))))),.fz (.int (r:Int)),t5',t6'] ⟨_,_,by rw [List.map_nil,List.append_nil]⟩
 refine ⟨t5,t6,?_⟩
 unfold b_signs_by_square_1
 rw [xFor_e]
 rw [show iEn (vF 2) [x0,x1,.fz (.str (rowS L r)),.ow (.dic (sD ((rws pre).map (al (gr L))))),.fz (.int (r:Int)),t5',t6']=.ok ((List.range 8).map fun (c:Nat)=>D.tup [.int (c:Int),.str ⟨#[gr L r c]⟩]) from rfl]
 simp only [R.ok_bind]
 rw [e1]
 have:rws (pre++[r])=rws pre++(List.range 8).map fun c=>(r,c):=by
  unfold rws
  rw [List.flatMap_append]
  simp
 rw [this]
theorem tx_split (L:List Fl):Txt.split (txS L) "\n"=(List.range 8).map (rowS L):=by
 rw [s10]
 unfold txS txL
 rw [split_eq (by simp [lns]) (fun l hl=>by
  obtain ⟨r,_,rfl⟩:=List.mem_map.mp hl
  intro z
  obtain ⟨c,_,z⟩:=List.mem_map.mp z
  exact gr_ne L r c z)]
 unfold lns
 rw [List.map_map]; rfl
theorem tx_len (L:List Fl):(txS L).length<=128:=by
 have:=tl_len (gr L) (List.range 64)
 rw [tl_all] at this
 show (txL (gr L)).toArray.size<=128
 simpa using this
theorem sqs_rws:rws (List.range 8)=sqs:=by unfold rws sqs; rfl
theorem enum_rows (f:Nat->D):enumD ((List.range 8).map f)=(List.range 8).map fun (r:Nat)=>D.tup [.int (r:Int),f r]:=rfl
theorem signs_by_square_d (L:List Fl):dn_signs_by_square [.str (txS L)]=.ok (.dic (sD (sqs.map (al (gr L))))):=by
 have es:eSplit (vE 0) "\n" [.fz (.str (txS L)),.un,.un,.un,.un,.un,.un]=.ok (.lst (((List.range 8).map (rowS L)).map D.str)):=by
  show (if (("\n":Str).length == 0)=false/\(txS L).length<=1000000/\(Txt.split (txS L) "\n").length<=1000000 then R.ok (D.lst ((Txt.split (txS L) "\n").map D.str)) else .no)=_
  rw [tx_split,if_pos ⟨by decide +kernel,by have:=tx_len L; omega,by simp⟩]
 have hl:(((List.range 8).map (rowS L)).map D.str)=(List.range 8).map fun r=>D.str (rowS L r):=by rw [List.map_map]; rfl
 rw [hl] at es
 have ec:=compL_map (set:=gN 2) (me:=e2 fNe (e1 fLen (vE 2)) (kE (.int 8))) (E:=clr [2] [.fz (.str (txS L)),.fz (.lst ((List.range 8).map fun r=>D.str (rowS L r))),.un,.un,.un,.un,.un]) (fun r=>D.str (rowS L r)) (fun _=>D.bl false) (List.range 8) (fun r _=>⟨_,rfl,rfl⟩)
 obtain ⟨E2,e2',t2,t4,t5,t6,rfl⟩:=forL_pre (set:=gT 4 2) (b:=b_signs_by_square_1) (fun (r:Nat)=>D.tup [.int (r:Int),.str (rowS L r)]) (fun (pre:List Nat) E=>∃ t2 t4 t5 t6,E=[.fz (.str (txS L)),.fz (.lst ((List.range 8).map fun r=>D.str (rowS L r))),t2,.ow (.dic (sD ((rws pre).map (al (gr L))))),t4,t5,t6]) (List.range 8) (by
  rintro pre r post epre E ⟨t2,t4,t5,t6,rfl⟩
  refine ⟨_,rfl,?_⟩
  obtain ⟨u5,u6,h⟩:=signs_row (L:=L) (x0:=.fz (.str (txS L))) (x1:=.fz (.lst ((List.range 8).map fun r=>D.str (rowS L r)))) (t5':=t5) (t6':=t6) epre
  exact goes_mk ⟨_,_,_,_,rfl⟩ h) [.fz (.str (txS L)),.fz (.lst ((List.range 8).map fun r=>D.str (rowS L r))),.un,.ow (.dic []),.un,.un,.un] ⟨_,_,_,_,rfl⟩
 have hen:iEn (vF 1) [.fz (.str (txS L)),.fz (.lst ((List.range 8).map fun r=>D.str (rowS L r))),.un,.ow (.dic []),.un,.un,.un]=.ok ((List.range 8).map fun (r:Nat)=>D.tup [.int (r:Int),.str (rowS L r)]):=by
  rw [<-enum_rows (fun r=>D.str (rowS L r))]; rfl
 have key:m_signs_by_square [.fz (.str (txS L)),.un,.un,.un,.un,.un,.un]=.ok (.rt (.dic (sD ((rws (List.range 8)).map (al (gr L)))))):=by
  unfold m_signs_by_square
  refine seq_nx (E':=[.fz (.str (txS L)),.fz (.lst ((List.range 8).map fun r=>D.str (rowS L r))),.un,.un,.un,.un,.un]) (set_ok es) ?_
  refine seq_nx (E':=[.fz (.str (txS L)),.fz (.lst ((List.range 8).map fun r=>D.str (rowS L r))),.un,.un,.un,.un,.un]) (if_nil (or_ff rfl (tst_ok (by
   rw [e1_e,eComp_e,if_pos (show noOw [2] [.fz (.str (txS L)),.fz (.lst ((List.range 8).map fun r=>D.str (rowS L r))),.un,.un,.un,.un,.un]=true from rfl)]
   rw [show iD (vF 1) [.fz (.str (txS L)),.fz (.lst ((List.range 8).map fun r=>D.str (rowS L r))),.un,.un,.un,.un,.un]=.ok ((List.range 8).map fun r=>D.str (rowS L r)) from rfl]
   simp only [R.ok_bind]
   rw [if_pos (by simp),ec]
   rfl)))) ?_
  refine seq_nx (E':=[.fz (.str (txS L)),.fz (.lst ((List.range 8).map fun r=>D.str (rowS L r))),.un,.ow (.dic []),.un,.un,.un]) rfl ?_
  refine seq_nx (E':=[.fz (.str (txS L)),.fz (.lst ((List.range 8).map fun r=>D.str (rowS L r))),t2,.ow (.dic (sD ((rws (List.range 8)).map (al (gr L))))),t4,t5,t6]) ?_ rfl
  rw [xFor_e,hen]
  simp only [R.ok_bind]
  exact e2'
 show ended (m_signs_by_square [.fz (.str (txS L)),.un,.un,.un,.un,.un,.un])=_
 rw [key,sqs_rws]; rfl
theorem sqs_len:sqs.length=64:=rfl
theorem items_al (g:Nat->Nat->Nat):(sD (sqs.map (al g))).map (fun kv=>D.tup [kT kv.1,kv.2])=sqs.map fun p=>D.tup [dS (up p),.str ⟨#[g p.1 p.2]⟩]:=by
 unfold sD
 rw [List.map_map,List.map_map]; rfl
theorem begun_step {g:Nat->Nat->Nat} {M:List Fl} {p:Nat × Nat} {x0 x4:Sl} (lM:M.length<=1000) :
  ∃ u4,b_flags_begun_1 [x0,.ow (dFL M),.fz (dS (up p)),.fz (.str ⟨#[g p.1 p.2]⟩),x4]=.ok (.nx [x0,.ow (dFL (M++(fl1 g p).toList)),.fz (dS (up p)),.fz (.str ⟨#[g p.1 p.2]⟩),u4]):=by
 refine ⟨.fz (.int 1),?_⟩
 have b0:b_flags_begun_2 [x0,.ow (dFL M),.fz (dS (up p)),.fz (.str ⟨#[g p.1 p.2]⟩),.fz (.int 0)]=.ok (.nx [x0,.ow (dFL (if g p.1 p.2=60 then M++[((p.1:Int),(p.2:Int),0)] else M)),.fz (dS (up p)),.fz (.str ⟨#[g p.1 p.2]⟩),.fz (.int 0)]):=by
  unfold b_flags_begun_2
  have ht:tstB (e2 fEq (vE 3) (eSign 0 (vE 4))) [x0,.ow (dFL M),.fz (dS (up p)),.fz (.str ⟨#[g p.1 p.2]⟩),.fz (.int 0)]=.ok (decide (g p.1 p.2=60)):=by
   refine tst_ok ?_
   show ofO (fEq (.str ⟨#[g p.1 p.2]⟩) (.str "<"))=_
   rw [s60,fEq_s]
   show R.ok (D.bl _)=_
   congr 2
   exact decide_eq_decide.2 one_eq
  rw [xIf_e,ht]
  by_cases h:g p.1 p.2=60
  ·simp [h,show M.length < 1000000 by omega,up]
  ·simp [h]
 generalize hM:(if g p.1 p.2=60 then M++[((p.1:Int),(p.2:Int),(0:Int))] else M)=M' at b0
 have lM':M'.length < 1000000:=by rw [<-hM]; split<;>(try simp)<;>omega
 have b1:b_flags_begun_2 [x0,.ow (dFL M'),.fz (dS (up p)),.fz (.str ⟨#[g p.1 p.2]⟩),.fz (.int 1)]=.ok (.nx [x0,.ow (dFL (M++(fl1 g p).toList)),.fz (dS (up p)),.fz (.str ⟨#[g p.1 p.2]⟩),.fz (.int 1)]):=by
  unfold b_flags_begun_2
  have ht:tstB (e2 fEq (vE 3) (eSign 0 (vE 4))) [x0,.ow (dFL M'),.fz (dS (up p)),.fz (.str ⟨#[g p.1 p.2]⟩),.fz (.int 1)]=.ok (decide (g p.1 p.2=94)):=by
   refine tst_ok ?_
   show ofO (fEq (.str ⟨#[g p.1 p.2]⟩) (.str "^"))=_
   rw [s94,fEq_s]
   show R.ok (D.bl _)=_
   congr 2
   exact decide_eq_decide.2 one_eq
  rw [xIf_e,ht]
  unfold fl1
  by_cases h:g p.1 p.2=60
  ·rw [if_pos h] at hM
   have h':¬ g p.1 p.2=94:=by omega
   rw [if_pos h,<-hM]
   simp [h']
  ·rw [if_neg h] at hM
   by_cases h':g p.1 p.2=94
   ·rw [if_neg h,if_pos h',hM]
    simp [h',lM',up]
   ·rw [if_neg h,if_neg h',hM]
    simp [h']
 unfold b_flags_begun_1
 show forL (gN 4) b_flags_begun_2 [.int 0,.int 1] [x0,.ow (dFL M),.fz (dS (up p)),.fz (.str ⟨#[g p.1 p.2]⟩),x4]=_
 rw [forL_nx (set:=gN 4) rfl b0]
 rw [forL_nx (set:=gN 4) rfl b1]
 rfl
theorem flags_begun_d (g:Nat->Nat->Nat):dn_flags_begun [.dic (sD (sqs.map (al g)))]=.ok (dFL (flagsOf g sqs)):=by
 obtain ⟨E1,e1,t2,t3,t4,rfl⟩:=forL_pre (set:=gT 2 3) (b:=b_flags_begun_1) (fun (p:Nat × Nat)=>D.tup [dS (up p),.str ⟨#[g p.1 p.2]⟩]) (fun (pre:List (Nat × Nat)) E=>∃ t2 t3 t4,E=[.fz (.dic (sD (sqs.map (al g)))),.ow (dFL (flagsOf g pre)),t2,t3,t4]) sqs (by
  rintro pre p post epre E ⟨t2,t3,t4,rfl⟩
  refine ⟨_,rfl,?_⟩
  have lp:pre.length<=64:=by have:=congrArg List.length epre; rw [sqs_len] at this; simp at this; omega
  have lf:(flagsOf g pre).length<=1000:=by
   have:(flagsOf g pre).length<=pre.length:=List.length_filterMap_le ..
   omega
  obtain ⟨u4,h⟩:=begun_step (g:=g) (M:=flagsOf g pre) (p:=p) (x0:=.fz (.dic (sD (sqs.map (al g))))) (x4:=t4) lf
  refine goes_mk (E:=[.fz (.dic (sD (sqs.map (al g)))),.ow (dFL (flagsOf g (pre++[p]))),.fz (dS (up p)),.fz (.str ⟨#[g p.1 p.2]⟩),u4]) ⟨_,_,_,rfl⟩ (h.trans ?_)
  have:flagsOf g (pre++[p])=flagsOf g pre++(fl1 g p).toList:=by
   unfold flagsOf
   rw [List.filterMap_append]
   congr 1
  rw [this]) [.fz (.dic (sD (sqs.map (al g)))),.ow (dFL []),.un,.un,.un] ⟨_,_,_,rfl⟩
 have key:m_flags_begun [.fz (.dic (sD (sqs.map (al g)))),.un,.un,.un,.un]=.ok (.rt (dFL (flagsOf g sqs))):=by
  unfold m_flags_begun
  refine then_nx (E':=[.fz (.dic (sD (sqs.map (al g)))),.ow (dFL []),.un,.un,.un]) rfl ?_
  refine then_nx (by
   rw [xFor_e]
   rw [show iDi (vF 0) [.fz (.dic (sD (sqs.map (al g)))),.ow (dFL []),.un,.un,.un]=.ok ((sD (sqs.map (al g))).map (fun kv=>D.tup [kT kv.1,kv.2])) from rfl,items_al]
   exact e1) ?_
  rfl
 show endedN (m_flags_begun [.fz (.dic (sD (sqs.map (al g)))),.un,.un,.un,.un])=_
 rw [key]; rfl
theorem read_d {F:List Sq} {L:List Fl} (hF:IsFloor F) (h:Lay F L) (hl:F.length < 65):dn_read [.str (txS L)]=.ok (.tup [dL F,dFL L]):=by
 have nc:(cover L).Nodup:=h.cov.nodup_iff.mpr (nodup_of_sorted hF.ord)
 have lc:(cover L).length=2 * L.length:=by
  unfold cover; rw [List.length_flatMap]; simp only [cells,List.length_cons,List.length_nil,List.map_const',List.sum_replicate_nat]; omega
 have lL:L.length<=1000:=by have:=h.len; omega
 have e1':=signs_by_square_d L
 have e2':=flags_begun_d (gr L)
 rw [flagsOf_gr hF h] at e2'
 have e3:=is_laying_t hF h hl
 have e4:=written_d nc lL h.way
 obtain ⟨S,hS⟩:∃ S:D,S=.dic (sD (sqs.map (al (gr L)))):=⟨_,rfl⟩
 have ef:eComp [2,3] (gT 2 3) (iDi (vF 1)) (tstB (e2 fNe (vE 3) (kE (.str ".")))) (vF 2) [.fz (.str (txS L)),.fz S,.un,.un,.un,.un]=.ok (dL F):=by
  have hi:iDi (vF 1) [.fz (.str (txS L)),.fz S,.un,.un,.un,.un]=.ok (sqs.map fun p=>D.tup [dS (up p),.str ⟨#[gr L p.1 p.2]⟩]):=by
   rw [<-items_al,hS]; rfl
  rw [eComp_e,hi,if_pos (show noOw [2,3] [.fz (.str (txS L)),.fz S,.un,.un,.un,.un]=true from rfl)]
  simp only [R.ok_bind]
  rw [if_pos (by rw [List.length_map,sqs_len]; decide)]
  rw [compL_ok (fun p:Nat × Nat=>D.tup [dS (up p),.str ⟨#[gr L p.1 p.2]⟩]) (fun p=>!(decide (gr L p.1 p.2=46))) (fun p=>dS (up p)) sqs (fun p _=>⟨_,rfl,by
   refine tst_ok ?_
   show ofO (fNe (.str ⟨#[gr L p.1 p.2]⟩) (.str "."))=_
   rw [s46,fNe_s]
   show R.ok (D.bl _)=_
   congr 3
   exact decide_eq_decide.2 one_eq,fun _=>rfl⟩)]
  simp only [R.ok_bind]
  have:=floorOf_gr hF h
  unfold floorOf at this
  show R.ok (D.lst _)=R.ok (D.lst (F.map dS))
  rw [<-this,List.map_map]; rfl
 rw [<-hS] at e1' e2'
 have key:m_read [.fz (.str (txS L)),.un,.un,.un,.un,.un]=.ok (.rt (.tup [dL F,dFL L])):=by
  unfold m_read
  refine then_nx (E':=[.fz (.str (txS L)),.fz S,.un,.un,.un,.un]) (set_ok (by simp [e1'])) ?_
  refine then_nx (E':=[.fz (.str (txS L)),.fz S,.un,.un,.ow (dL F),.un]) ?_ ?_
  ·unfold xOwn
   rw [ef]; rfl
  refine then_nx (E':=[.fz (.str (txS L)),.fz S,.un,.un,.ow (dL F),.ow (dFL L)]) ?_ ?_
  ·simp [e2']
  refine then_nx (E':=[.fz (.str (txS L)),.fz S,.un,.un,.ow (dL F),.ow (dFL L)]) (if_nil (or_ff (not_ff (tst_ok ?_)) (tst_ok ?_))) ?_
  ·simp [frz_e,e3,flat]
  ·simp [frz_e,e4,flat,fNe_s]
  ·rfl
 show endedN (m_read [.fz (.str (txS L)),.un,.un,.un,.un,.un])=_
 rw [key]; rfl
theorem shown_d {F:List Sq} {L:List Fl} (hF:IsFloor F) (h:Lay F L) (hl:F.length < 65):dn_shown [dL F,dFL L]=.ok (.str (txS L)):=by
 have nc:(cover L).Nodup:=h.cov.nodup_iff.mpr (nodup_of_sorted hF.ord)
 have lc:(cover L).length=2 * L.length:=by
  unfold cover; rw [List.length_flatMap]; simp only [cells,List.length_cons,List.length_nil,List.map_const',List.sum_replicate_nat]; omega
 have lL:L.length<=1000:=by have:=h.len; omega
 unfold dn_shown m_shown
 simp [check_laying_t hF h hl,written_d nc lL h.way]
theorem tuples_d {α:Type} (f:α->D) (n:Nat) (xs:List α) (hl:xs.length<=1000) (ht:∀ x,∃ is:List Int,f x=.tup (is.map D.int)/\is.length=n) (hne:∀ x,fNe (f x) (f x)=some (.bl false)):dn_law_tuples [.lst (xs.map f),.lst (xs.map f),.int (n:Int)]=.ok (.bl true):=by
 obtain ⟨E1,q1,t3,t4,rfl⟩:=forL_pre (set:=gN 3) (b:=b_law_tuples_1) (fun (k:Nat)=>D.int (k:Int)) (fun (_:List Nat) E=>∃ t3 t4,E=[.fz (.lst (xs.map f)),.fz (.lst (xs.map f)),.fz (.int (n:Int)),t3,t4]) (List.range xs.length) (by
  rintro pre k post epre E ⟨t3,t4,rfl⟩
  refine ⟨_,rfl,?_⟩
  have hk:k < xs.length:=List.mem_range.mp (by rw [epre]; simp)
  have hix:fIx (.lst (xs.map f)) (.int (k:Int))=some (f xs[k]):=by
   rw [fIx_l]
   refine atI_nat ?_
   rw [List.getElem?_map]
   simp [hk]
  obtain ⟨is,eis,lis⟩:=ht xs[k]
  have hn:=hne xs[k]
  rw [eis] at hix hn
  obtain ⟨E2,q2,t4',rfl⟩:=forL_pre (set:=gN 4) (b:=b_law_tuples_2) D.int (fun (_:List Int) E=>∃ t4,E=[.fz (.lst (xs.map f)),.fz (.lst (xs.map f)),.fz (.int (n:Int)),.fz (.int (k:Int)),t4]) is (by
   rintro pre i post epre E ⟨t4,rfl⟩
   exact ⟨_,rfl,goes_mk ⟨_,rfl⟩ (by unfold b_law_tuples_2; rfl)⟩) [.fz (.lst (xs.map f)),.fz (.lst (xs.map f)),.fz (.int (n:Int)),.fz (.int (k:Int)),t4] ⟨_,rfl⟩
  refine goes_mk (E:=[.fz (.lst (xs.map f)),.fz (.lst (xs.map f)),.fz (.int (n:Int)),.fz (.int (k:Int)),t4']) ⟨_,_,rfl⟩ ?_
  have hx:e2 fIx (vE 0) (vE 3) [.fz (.lst (xs.map f)),.fz (.lst (xs.map f)),.fz (.int (n:Int)),.fz (.int (k:Int)),t4]=.ok (.tup (is.map D.int)):=by
   show ofO (fIx (.lst (xs.map f)) (.int (k:Int)))=_
   rw [hix]; rfl
  have hy:e2 fIx (vE 1) (vE 3) [.fz (.lst (xs.map f)),.fz (.lst (xs.map f)),.fz (.int (n:Int)),.fz (.int (k:Int)),t4]=.ok (.tup (is.map D.int)):=by
   show ofO (fIx (.lst (xs.map f)) (.int (k:Int)))=_
   rw [hix]; rfl
  show b_law_tuples_1 [.fz (.lst (xs.map f)),.fz (.lst (xs.map f)),.fz (.int (n:Int)),.fz (.int (k:Int)),t4]=_
  unfold b_law_tuples_1
  refine seq_nx (E':=[.fz (.lst (xs.map f)),.fz (.lst (xs.map f)),.fz (.int (n:Int)),.fz (.int (k:Int)),t4]) (if_nil (or_ff (not_ff (tst_ok ?_)) (or_ff (tst_ok ?_) (tst_ok ?_)))) ?_
  ·rw [e1_e,hx]; rfl
  ·rw [e2_e,e1_e,hx]
   simp [lis]
  ·rw [e2_e,hx,hy]
   simp only [R.ok_bind]
   rw [hn]; rfl
  ·rw [xFor_e,iT_e,hx]
   exact q2) [.fz (.lst (xs.map f)),.fz (.lst (xs.map f)),.fz (.int (n:Int)),.un,.un] ⟨_,_,rfl⟩
 have key:m_law_tuples [.fz (.lst (xs.map f)),.fz (.lst (xs.map f)),.fz (.int (n:Int)),.un,.un]=.ok (.rt (.bl true)):=by
  unfold m_law_tuples
  refine seq_nx (E':=[.fz (.lst (xs.map f)),.fz (.lst (xs.map f)),.fz (.int (n:Int)),.un,.un]) (if_nil (or_ff (not_ff (tst_ok rfl)) (tst_ok (by simp)))) ?_
  refine seq_nx (E':=[.fz (.lst (xs.map f)),.fz (.lst (xs.map f)),.fz (.int (n:Int)),t3,t4]) ?_ rfl
  rw [xFor_e]
  have hr:iR1 (e1 fLen (vE 1)) [.fz (.lst (xs.map f)),.fz (.lst (xs.map f)),.fz (.int (n:Int)),.un,.un]=.ok ((List.range xs.length).map fun (k:Nat)=>D.int (k:Int)):=by
   rw [<-rng_nat]
   simp [show xs.length < 1000000 by omega]
  rw [hr]
  exact q1
 show ended (m_law_tuples [.fz (.lst (xs.map f)),.fz (.lst (xs.map f)),.fz (.int (n:Int)),.un,.un])=_
 rw [key]; rfl
theorem good_d {F:List Sq} {L:List Fl} (lF:F.length<=1000) (lL:L.length<=1000):dn_law_good [.tup [dL F,dFL L],dL F,dFL L]=.ok (.bl true):=by
 have h1:=tuples_d dS 2 F lF (fun x=>⟨[x.1,x.2],rfl,rfl⟩) (fun x=>by rw [fNe_S]; simp)
 have h2:=tuples_d dF 3 L lL (fun x=>⟨[x.1,x.2.1,x.2.2],rfl,rfl⟩) (fun x=>by
  show some (D.bl (!(eqb (dF x) (dF x))))=_
  rw [eqb_F]; simp)
 have h1:dn_law_tuples [dL F,dL F,.int 2]=.ok (.bl true):=h1
 have h2:dn_law_tuples [dFL L,dFL L,.int 3]=.ok (.bl true):=h2
 have key:m_law_good [.fz (.tup [dL F,dFL L]),.fz (dL F),.fz (dFL L)]=.ok (.rt (.bl true)):=by
  unfold m_law_good
  refine seq_nx (E':=[.fz (.tup [dL F,dFL L]),.fz (dL F),.fz (dFL L)]) rfl ?_
  simp [h1,h2]
 show ended (m_law_good [.fz (.tup [dL F,dFL L]),.fz (dL F),.fz (dFL L)])=_
 rw [key]; rfl
theorem law_true:∀ ns:List Int,ns.length<=63->dn_law [.scr ns]=.ok (.bl true):=by
 intro ns _
 obtain ⟨F,L,e1,hF,hL,hl⟩:=law_laid_d ns
 have nc:(cover L).Nodup:=hL.cov.nodup_iff.mpr (nodup_of_sorted hF.ord)
 have lc:(cover L).length=2 * L.length:=by
  unfold cover; rw [List.length_flatMap]; simp only [cells,List.length_cons,List.length_nil,List.map_const',List.sum_replicate_nat]; omega
 have lL:L.length<=1000:=by have:=hL.len; omega
 have lF:F.length<=1000:=by omega
 have es:=shown_d hF hL (by omega)
 have et:=law_text_d nc lL hL.way
 have er:=read_d hF hL (by omega)
 have eg:=good_d (F:=F) (L:=L) lF lL
 have key:m_law [.fz (.scr ns),.un,.un,.un,.un]=.ok (.rt (.bl true)):=by
  unfold m_law
  refine seq_nx (E':=[.fz (.scr ns),.fz (.tup [dL F,dFL L]),.un,.un,.un]) (set_ok (by simp [e1])) ?_
  refine seq_nx (E':=[.fz (.scr ns),.fz (.tup [dL F,dFL L]),.fz (.lst [dL F,dFL L]),.un,.un]) (set_ok (by rfl)) ?_
  have hs:eCall 2 dn_shown (aCons (e2 fIx (vE 2) (kE (.int 0))) (aCons (e2 fIx (vE 2) (kE (.int 1))) (aNil))) [.fz (.scr ns),.fz (.tup [dL F,dFL L]),.fz (.lst [dL F,dFL L]),.un,.un]=.ok (.str (txS L)):=by
   show (if ([dL F,dFL L]:List D).length=2 then dn_shown [dL F,dFL L] else .no)=_
   exact (if_pos rfl).trans es
  refine seq_nx (E':=[.fz (.scr ns),.fz (.tup [dL F,dFL L]),.fz (.lst [dL F,dFL L]),.fz (.str (txS L)),.un]) (set_ok hs) ?_
  refine seq_nx (E':=[.fz (.scr ns),.fz (.tup [dL F,dFL L]),.fz (.lst [dL F,dFL L]),.fz (.str (txS L)),.un]) (if_nil (or_ff (not_ff (tst_ok rfl)) (tst_ok ?_))) ?_
  ·show (dn_law_text [dFL L] >>= fun y=>ofO (fNe (.str (txS L)) y))=_
   rw [et]
   simp only [R.ok_bind]
   rw [fNe_s]; simp
  refine seq_nx (E':=[.fz (.scr ns),.fz (.tup [dL F,dFL L]),.fz (.lst [dL F,dFL L]),.fz (.str (txS L)),.un]) (if_nil (or_ff (tst_ok ?_) (tst_ok ?_))) ?_
  ·show ofO (fNe (dL F) (dL F))=_
   rw [fNe_L]; simp
  ·show ofO (fNe (dFL L) (dFL L))=_
   rw [fNe_FL]; simp
  refine seq_nx (E':=[.fz (.scr ns),.fz (.tup [dL F,dFL L]),.fz (.lst [dL F,dFL L]),.fz (.str (txS L)),.un]) ?_ ?_
  ·unfold xFnd
   show (dn_read [.str (txS L)] >>= _)=_
   rw [er]
   simp only [R.ok_bind]
   show (if (F.map dS).length<=1000/\(L.map dF).length<=1000/\4 < 5 then (dn_law_good [.tup [dL F,dFL L],dL F,dFL L] >>= _) else R.no)=_
   rw [if_pos ⟨by simpa using lF,by simpa using lL,by decide⟩,eg]
   rfl
  ·have hr:twoL dn_read [.str (txS L)]=.ok (.tup [dL F,dFL L]):=by
    unfold twoL
    rw [er]; rfl
   show ((twoL dn_read [.str (txS L)] >>= fun x=>R.ok [x,dL F,dFL L]) >>= fun ds=>if ds.length=3 then dn_law_good ds else .no) >>= (fun d=>R.ok (Out.rt d))=_
   rw [hr]
   show dn_law_good [.tup [dL F,dFL L],dL F,dFL L] >>= (fun d=>R.ok (Out.rt d))=_
   rw [eg]; rfl
 show ended (m_law [.fz (.scr ns),.un,.un,.un,.un])=_
 rw [key]; rfl
end M

set_option maxHeartbeats 4000000
set_option Elab.async false
set_option linter.all false
set_option maxRecDepth 100000
namespace M
open PySem PySem.Spec PyProof.Rows L2
noncomputable def top (i:Nat):Stmt:=PySem.Challenge.pw_flagfloor_k16_written_and_read.main.body.getD i (.Pass ⟨0,0,0,0⟩)
structure Txt (mg:Str->Option Value):Prop where
 g_SIDE:∃ t,mg "SIDE"=some (.int 8 t)
 g_zip:mg "zip"=none
 g_all:mg "all"=none
 g_sorted:mg "sorted"=none
 g_range:mg "range"=none
 g_BARE:∃ t,mg "BARE"=some (.str "." t)
 g_len:mg "len"=none
 g_any:mg "any"=none
 g_enumerate:mg "enumerate"=none
 g_isinstance:mg "isinstance"=none
 g_list:mg "list"=none
 g_tuple:mg "tuple"=none
 g_int:mg "int"=none
 g_bool:mg "bool"=none
 g_str:mg "str"=none
section
variable {P:Program} {w:World} {K:PySem.W.Frag} {mg:Str->Option Value} {base:Heap}
noncomputable abbrev s_on_board:Stmt:=top 7
theorem sc_on_board:FnScope ["square"] ["square"] (defScope s_on_board):=⟨rfl,rfl,rfl,by decide +kernel,rfl,by decide +kernel,by decide +kernel⟩
theorem ok_on_board {f:Addr} {fd:FuncData} (Dn:Dfn K mg "on_board" s_on_board f fd) (T:Txt mg) :Cal P w K mg base "on_board" ["square"] 1 dn_on_board :=
 ⟨f,fd,Dn.mg,Dn.fn.kp,Dn.fn.binds fun _ _ _ _ _ _ us hl=>by obtain ⟨_,rfl⟩:=len1 hl; rfl,fn_okG Dn.fn sc_on_board fun cdv A outer s H E hr gd G hx =>
  sb_one (ss_ret (sf_and (sf_ch ch_le ch_ltI (SF.se (sf_int)) (SF.se (sf_at (se_var 0) (SF.se (sf_int)))) (SF.se (sf_gint T.g_SIDE (by rfl)))) (sf_one (sf_ch ch_le ch_ltI (SF.se (sf_int)) (SF.se (sf_at (se_var 0) (SF.se (sf_int)))) (SF.se (sf_gint T.g_SIDE (by rfl)))))))⟩
noncomputable abbrev s_check_floor:Stmt:=top 8
theorem sc_check_floor:FnScope ["floor","square","earlier","later"] ["floor"] (defScope s_check_floor):=⟨rfl,rfl,rfl,by decide +kernel,rfl,by decide +kernel,by decide +kernel⟩
theorem ok_check_floor {f:Addr} {fd:FuncData} (Dn:Dfn K mg "check_floor" s_check_floor f fd) (T:Txt mg) (C_on_board:Cal P w K mg base "on_board" ["square"] 1 dn_on_board):Cal P w K mg base "check_floor" ["floor"] 2 dn_check_floor :=
 ⟨f,fd,Dn.mg,Dn.fn.kp,Dn.fn.binds fun _ _ _ _ _ _ us hl=>by obtain ⟨_,rfl⟩:=len1 hl; rfl,fn_okG Dn.fn sc_check_floor fun cdv A outer s H E hr gd G hx =>
  sb_cons (ss_for gd (si_list (sf_var 0)) (sg_name gd 1) (fun _ e1=>sb_one (ss_if (st_not (st_val (SF.se (sf_cal (x:="on_board") (ps:=["square"]) (k:=1) (j:=1) (dn:=dn_on_board) (by exact C_on_board) (hx_of e1 hx) (by exact hr) (by decide) (by rfl) (sa_cons (sf_var 1) (sa_nil)))))) (sb_one (ss_never)) (sb_nil))))
  (sb_one (ss_for gd (si_zip  (by rfl) T.g_zip (sf_var 0) (sf_slice (se_var 0) (so_some (SF.se (sf_int))) (so_none))) (sg_two gd 2 3) (fun _ e2=>sb_one (ss_if (st_not (st_lt gd (se_var 2) (se_var 3))) (sb_one (ss_never)) (sb_nil)))))⟩
noncomputable abbrev s_squares_under:Stmt:=top 10
theorem sc_squares_under:FnScope ["flag","row","column"] ["flag"] (defScope s_squares_under):=⟨rfl,rfl,rfl,by decide +kernel,rfl,by decide +kernel,by decide +kernel⟩
theorem ok_squares_under {f:Addr} {fd:FuncData} (Dn:Dfn K mg "squares_under" s_squares_under f fd) (T:Txt mg) :Cal P w K mg base "squares_under" ["flag"] 1 dn_squares_under :=
 ⟨f,fd,Dn.mg,Dn.fn.kp,Dn.fn.binds fun _ _ _ _ _ _ us hl=>by obtain ⟨_,rfl⟩:=len1 hl; rfl,fn_okG Dn.fn sc_squares_under fun cdv A outer s H E hr gd G hx =>
  sb_cons (ss_set 1 (sf_at (se_var 0) (SF.se (sf_int))) gd.nd)
  (sb_cons (ss_set 2 (sf_at (se_var 0) (SF.se (sf_int))) gd.nd)
  (sb_cons (ss_if (st_eq gd (SF.se (sf_at (se_var 0) (SF.se (sf_int)))) (SF.se (sf_int))) (sb_one (ss_ret (SN.sf (sn_lst (sa_cons (sf_tup (sa_cons (sf_var 1) (sa_cons (sf_var 2) (sa_nil)))) (sa_cons (sf_tup (sa_cons (sf_var 1) (sa_cons (sf_add (se_var 2) (SF.se (sf_int))) (sa_nil)))) (sa_nil))))))) (sb_nil))
  (sb_one (ss_ret (SN.sf (sn_lst (sa_cons (sf_tup (sa_cons (sf_var 1) (sa_cons (sf_var 2) (sa_nil)))) (sa_cons (sf_tup (sa_cons (sf_add (se_var 1) (SF.se (sf_int))) (sa_cons (sf_var 2) (sa_nil)))) (sa_nil)))))))))⟩
noncomputable abbrev s_are_in_order:Stmt:=top 11
theorem sc_are_in_order:FnScope ["flags","earlier","later"] ["flags"] (defScope s_are_in_order):=⟨rfl,rfl,rfl,by decide +kernel,rfl,by decide +kernel,by decide +kernel⟩
theorem ok_are_in_order {f:Addr} {fd:FuncData} (Dn:Dfn K mg "are_in_order" s_are_in_order f fd) (T:Txt mg) :Cal P w K mg base "are_in_order" ["flags"] 1 dn_are_in_order :=
 ⟨f,fd,Dn.mg,Dn.fn.kp,Dn.fn.binds fun _ _ _ _ _ _ us hl=>by obtain ⟨_,rfl⟩:=len1 hl; rfl,fn_okG Dn.fn sc_are_in_order fun cdv A outer s H E hr gd G hx =>
  sb_one (ss_ret (sf_all gd  (by rfl) T.g_all (SN.se (sn_comp gd hx (si_zip  (by rfl) T.g_zip (sf_var 0) (sf_slice (se_var 0) (so_some (SF.se (sf_int))) (so_none))) (⟨cs_of rfl (by decide +kernel) (by decide +kernel) (by repeat first | exact True.intro | refine And.intro (by first | (intro h; exact absurd h (by decide)) | (intro _; exact Or.inl rfl) | (intro _; exact Or.inr rfl)) ?_),loc_of (N:=["flags","earlier","later"]) (by decide +kernel),hset_t _ _,fun _ _ _ _=>sg_two (gd_in gd) 1 2,fun _ _ _ _ _ e1=>sc_nil,fun _ _ _ _ _ e1=>sf_lt (gd_in gd) (SF.se (sf_slice (se_var 1) (so_none) (so_some (SF.se (sf_int))))) (SF.se (sf_slice (se_var 2) (so_none) (so_some (SF.se (sf_int)))))⟩)))))⟩
noncomputable abbrev s_all_under:Stmt:=top 12
theorem sc_all_under:FnScope ["flags","squares","flag"] ["flags"] (defScope s_all_under):=⟨rfl,rfl,rfl,by decide +kernel,rfl,by decide +kernel,by decide +kernel⟩
theorem ok_all_under {f:Addr} {fd:FuncData} (Dn:Dfn K mg "all_under" s_all_under f fd) (T:Txt mg) (C_squares_under:Cal P w K mg base "squares_under" ["flag"] 1 dn_squares_under):Cal P w K mg base "all_under" ["flags"] 2 dn_all_under :=
 ⟨f,fd,Dn.mg,Dn.fn.kp,Dn.fn.binds fun _ _ _ _ _ _ us hl=>by obtain ⟨_,rfl⟩:=len1 hl; rfl,fn_okG Dn.fn sc_all_under fun cdv A outer s H E hr gd G hx =>
  sb_cons (ss_own 1 (sn_lst (sa_nil)) gd.nd)
  (sb_cons (ss_for gd (si_list (sf_var 0)) (sg_name gd 2) (fun _ e1=>sb_one (ss_ext 1 (sf_cal (x:="squares_under") (ps:=["flag"]) (k:=1) (j:=1) (dn:=dn_squares_under) (by exact C_squares_under) (hx_of e1 hx) (by exact hr) (by decide) (by rfl) (sa_cons (sf_var 2) (sa_nil))))))
  (sb_one (ss_ret (SN.sf (sn_sort gd  (by rfl) T.g_sorted (se_var 1))))))⟩
noncomputable abbrev s_is_laying:Stmt:=top 13
theorem sc_is_laying:FnScope ["floor","flags","flag"] ["floor","flags"] (defScope s_is_laying):=⟨rfl,rfl,rfl,by decide +kernel,rfl,by decide +kernel,by decide +kernel⟩
theorem ok_is_laying {f:Addr} {fd:FuncData} (Dn:Dfn K mg "is_laying" s_is_laying f fd) (T:Txt mg) (C_check_floor:Cal P w K mg base "check_floor" ["floor"] 2 dn_check_floor) (C_are_in_order:Cal P w K mg base "are_in_order" ["flags"] 1 dn_are_in_order) (C_all_under:Cal P w K mg base "all_under" ["flags"] 2 dn_all_under):Cal P w K mg base "is_laying" ["floor","flags"] 3 dn_is_laying :=
 ⟨f,fd,Dn.mg,Dn.fn.kp,Dn.fn.binds fun _ _ _ _ _ _ us hl=>by obtain ⟨_,_,rfl⟩:=len2 hl; rfl,fn_okG Dn.fn sc_is_laying fun cdv A outer s H E hr gd G hx =>
  sb_cons (ss_expr (SF.se (sf_cal (x:="check_floor") (ps:=["floor"]) (k:=2) (j:=2) (dn:=dn_check_floor) (by exact C_check_floor) hx (by exact hr) (by decide) (by rfl) (sa_cons (sf_var 0) (sa_nil)))))
  (sb_cons (ss_if (st_not (st_val (SF.se (sf_all gd  (by rfl) T.g_all (SN.se (sn_comp gd hx (si_list (sf_var 1)) (⟨cs_of rfl (by decide +kernel) (by decide +kernel) (by repeat first | exact True.intro | refine And.intro (by first | (intro h; exact absurd h (by decide)) | (intro _; exact Or.inl rfl) | (intro _; exact Or.inr rfl)) ?_),loc_of (N:=["floor","flags","flag"]) (by decide +kernel),hset_n _ ,fun _ _ _ _=>sg_name (gd_in gd) 2,fun _ _ _ _ _ e1=>sc_nil,fun _ _ _ _ _ e1=>sf_in (gd_in gd) (SF.se (sf_at (se_var 2) (SF.se (sf_int)))) (SF.se (sf_tup (sa_cons (sf_int) (sa_cons (sf_int) (sa_nil)))))⟩))))))) (sb_one (ss_ret (sf_bl))) (sb_nil))
  (sb_one (ss_ret (sf_and (sf_cal (x:="are_in_order") (ps:=["flags"]) (k:=1) (j:=2) (dn:=dn_are_in_order) (by exact C_are_in_order) hx (by exact hr) (by decide) (by rfl) (sa_cons (sf_var 1) (sa_nil))) (sf_one (sf_eq gd (SF.se (sf_cal (x:="all_under") (ps:=["flags"]) (k:=2) (j:=2) (dn:=dn_all_under) (by exact C_all_under) hx (by exact hr) (by decide) (by rfl) (sa_cons (sf_var 1) (sa_nil)))) (se_var 0)))))))⟩
noncomputable abbrev s_check_laying:Stmt:=top 14
theorem sc_check_laying:FnScope ["floor","flags"] ["floor","flags"] (defScope s_check_laying):=⟨rfl,rfl,rfl,by decide +kernel,rfl,by decide +kernel,by decide +kernel⟩
theorem ok_check_laying {f:Addr} {fd:FuncData} (Dn:Dfn K mg "check_laying" s_check_laying f fd) (T:Txt mg) (C_is_laying:Cal P w K mg base "is_laying" ["floor","flags"] 3 dn_is_laying):Cal P w K mg base "check_laying" ["floor","flags"] 4 dn_check_laying :=
 ⟨f,fd,Dn.mg,Dn.fn.kp,Dn.fn.binds fun _ _ _ _ _ _ us hl=>by obtain ⟨_,_,rfl⟩:=len2 hl; rfl,fn_okG Dn.fn sc_check_laying fun cdv A outer s H E hr gd G hx =>
  sb_one (ss_if (st_not (st_val (SF.se (sf_cal (x:="is_laying") (ps:=["floor","flags"]) (k:=3) (j:=3) (dn:=dn_is_laying) (by exact C_is_laying) hx (by exact hr) (by decide) (by rfl) (sa_cons (sf_var 0) (sa_cons (sf_var 1) (sa_nil))))))) (sb_one (ss_never)) (sb_nil))⟩
noncomputable abbrev s_written:Stmt:=top 18
theorem sc_written:FnScope ["flags","signs","flag","square","sign","lines","row","column"] ["flags"] (defScope s_written):=⟨rfl,rfl,rfl,by decide +kernel,rfl,by decide +kernel,by decide +kernel⟩
theorem ok_written {f:Addr} {fd:FuncData} (Dn:Dfn K mg "written" s_written f fd) (T:Txt mg) (SA:Sgn K mg) (C_squares_under:Cal P w K mg base "squares_under" ["flag"] 1 dn_squares_under):Cal P w K mg base "written" ["flags"] 2 dn_written :=
 ⟨f,fd,Dn.mg,Dn.fn.kp,Dn.fn.binds fun _ _ _ _ _ _ us hl=>by obtain ⟨_,rfl⟩:=len1 hl; rfl,fn_okG Dn.fn sc_written fun cdv A outer s H E hr gd G hx =>
  sb_cons (ss_own 1 (sn_dic) gd.nd)
  (sb_cons (ss_for gd (si_list (sf_var 0)) (sg_name gd 2) (fun _ e1=>sb_one (ss_for gd (si_zipS SA  (by rfl) T.g_zip (by rfl) (sf_cal (x:="squares_under") (ps:=["flag"]) (k:=1) (j:=1) (dn:=dn_squares_under) (by exact C_squares_under) (hx_of e1 hx) (by exact hr) (by decide) (by rfl) (sa_cons (sf_var 2) (sa_nil))) (SF.se (sf_at (se_var 2) (SF.se (sf_int))))) (sg_two gd 3 4) (fun _ e2=>sb_one (ss_dput 1 (hu1 gd) (se_var 3) (sf_var 4))))))
  (sb_cons (ss_own 5 (sn_lst (sa_nil)) gd.nd)
  (sb_cons (ss_for gd (si_range1  (by rfl) T.g_range (sf_gint T.g_SIDE (by rfl))) (sg_name gd 6) (fun _ e3=>sb_one (ss_app 5 (sf_join (SN.se (sn_comp gd (hx_of e3 hx) (si_range1  (by rfl) T.g_range (sf_gint T.g_SIDE (by rfl))) (⟨cs_of rfl (by decide +kernel) (by decide +kernel) (by repeat first | exact True.intro | refine And.intro (by first | (intro h; exact absurd h (by decide)) | (intro _; exact Or.inl rfl) | (intro _; exact Or.inr rfl)) ?_),loc_of (N:=["flags","signs","flag","square","sign","lines","row","column"]) (by decide +kernel),hset_n _ ,fun _ _ _ _=>sg_name (gd_in gd) 7,fun _ _ _ _ _ e4=>sc_nil,fun _ _ _ _ _ e4=>sf_dget2 (gd_in gd) (se_var 1) (SF.se (sf_tup (sa_cons (sf_var 6) (sa_cons (sf_var 7) (sa_nil))))) (sf_gstr T.g_BARE (by rfl))⟩)))))))
  (sb_one (ss_ret (sf_join (se_var 5)))))))⟩
noncomputable abbrev s_shown:Stmt:=top 19
theorem sc_shown:FnScope ["floor","flags"] ["floor","flags"] (defScope s_shown):=⟨rfl,rfl,rfl,by decide +kernel,rfl,by decide +kernel,by decide +kernel⟩
theorem ok_shown {f:Addr} {fd:FuncData} (Dn:Dfn K mg "shown" s_shown f fd) (T:Txt mg) (C_check_laying:Cal P w K mg base "check_laying" ["floor","flags"] 4 dn_check_laying) (C_written:Cal P w K mg base "written" ["flags"] 2 dn_written):Cal P w K mg base "shown" ["floor","flags"] 5 dn_shown :=
 ⟨f,fd,Dn.mg,Dn.fn.kp,Dn.fn.binds fun _ _ _ _ _ _ us hl=>by obtain ⟨_,_,rfl⟩:=len2 hl; rfl,fn_okG Dn.fn sc_shown fun cdv A outer s H E hr gd G hx =>
  sb_cons (ss_expr (SF.se (sf_cal (x:="check_laying") (ps:=["floor","flags"]) (k:=4) (j:=4) (dn:=dn_check_laying) (by exact C_check_laying) hx (by exact hr) (by decide) (by rfl) (sa_cons (sf_var 0) (sa_cons (sf_var 1) (sa_nil))))))
  (sb_one (ss_ret (sf_cal (x:="written") (ps:=["flags"]) (k:=2) (j:=4) (dn:=dn_written) (by exact C_written) hx (by exact hr) (by decide) (by rfl) (sa_cons (sf_var 1) (sa_nil)))))⟩
noncomputable abbrev s_signs_by_square:Stmt:=top 20
theorem sc_signs_by_square:FnScope ["text","lines","line","signs","row","column","sign"] ["text"] (defScope s_signs_by_square):=⟨rfl,rfl,rfl,by decide +kernel,rfl,by decide +kernel,by decide +kernel⟩
theorem ok_signs_by_square {f:Addr} {fd:FuncData} (Dn:Dfn K mg "signs_by_square" s_signs_by_square f fd) (T:Txt mg) :Cal P w K mg base "signs_by_square" ["text"] 1 dn_signs_by_square :=
 ⟨f,fd,Dn.mg,Dn.fn.kp,Dn.fn.binds fun _ _ _ _ _ _ us hl=>by obtain ⟨_,rfl⟩:=len1 hl; rfl,fn_okG Dn.fn sc_signs_by_square fun cdv A outer s H E hr gd G hx =>
  sb_cons (ss_set 1 (SN.sf (sn_split (se_var 0))) gd.nd)
  (sb_cons (ss_if (SW.st (sw_or (st_ne gd (SF.se (sf_len  (by rfl) T.g_len (se_var 1))) (SF.se (sf_gint T.g_SIDE (by rfl)))) (sw_or1 (st_val (SF.se (sf_any gd  (by rfl) T.g_any (SN.se (sn_comp gd hx (si_list (sf_var 1)) (⟨cs_of rfl (by decide +kernel) (by decide +kernel) (by repeat first | exact True.intro | refine And.intro (by first | (intro h; exact absurd h (by decide)) | (intro _; exact Or.inl rfl) | (intro _; exact Or.inr rfl)) ?_),loc_of (N:=["text","lines","line","signs","row","column","sign"]) (by decide +kernel),hset_n _ ,fun _ _ _ _=>sg_name (gd_in gd) 2,fun _ _ _ _ _ e1=>sc_nil,fun _ _ _ _ _ e1=>sf_ne (gd_in gd) (SF.se (sf_len  (by rfl) T.g_len (se_var 2))) (SF.se (sf_gint T.g_SIDE (by rfl)))⟩))))))))) (sb_one (ss_never)) (sb_nil))
  (sb_cons (ss_own 3 (sn_dic) gd.nd)
  (sb_cons (ss_for gd (si_enum  (by rfl) T.g_enumerate (sf_var 1)) (sg_two gd 4 2) (fun _ e2=>sb_one (ss_for gd (si_enum  (by rfl) T.g_enumerate (sf_var 2)) (sg_two gd 5 6) (fun _ e3=>sb_one (ss_dput 3 (hu1 gd) (SF.se (sf_tup (sa_cons (sf_var 4) (sa_cons (sf_var 5) (sa_nil))))) (sf_var 6))))))
  (sb_one (ss_frz 3 (ss_ret (sf_var 3)))))))⟩
noncomputable abbrev s_flags_begun:Stmt:=top 21
theorem sc_flags_begun:FnScope ["signs","flags","square","sign","way"] ["signs"] (defScope s_flags_begun):=⟨rfl,rfl,rfl,by decide +kernel,rfl,by decide +kernel,by decide +kernel⟩
theorem ok_flags_begun {f:Addr} {fd:FuncData} (Dn:Dfn K mg "flags_begun" s_flags_begun f fd) (T:Txt mg) (SA:Sgn K mg) :CalN P w K mg base "flags_begun" ["signs"] 1 dn_flags_begun :=
 ⟨f,fd,Dn.mg,Dn.fn.kp,Dn.fn.binds fun _ _ _ _ _ _ us hl=>by obtain ⟨_,rfl⟩:=len1 hl; rfl,fn_okN Dn.fn sc_flags_begun fun cdv A outer s H E hr gd G hx =>
  sbn_then (ss_own 1 (sn_lst (sa_nil)) gd.nd)
  (sbn_then (ss_for gd (si_items gd (sf_var 0)) (sg_two gd 2 3) (fun _ e1=>sb_one (ss_for gd (si_tup (sf_tup (sa_cons (sf_int) (sa_cons (sf_int) (sa_nil))))) (sg_name gd 4) (fun _ e2=>sb_one (ss_if (st_eq gd (se_var 3) (SF.se (sf_sign 0 SA (by rfl) (se_var 4)))) (sb_one (ss_app 1 (sf_tup (sa_cons (sf_at (se_var 2) (SF.se (sf_int))) (sa_cons (sf_at (se_var 2) (SF.se (sf_int))) (sa_cons (sf_var 4) (sa_nil))))))) (sb_nil))))))
  (sbn_one (ssn_reto 1)))⟩
noncomputable abbrev s_read:Stmt:=top 22
theorem sc_read:FnScope ["text","signs","square","sign","floor","flags"] ["text"] (defScope s_read):=⟨rfl,rfl,rfl,by decide +kernel,rfl,by decide +kernel,by decide +kernel⟩
theorem ok_read {f:Addr} {fd:FuncData} (Dn:Dfn K mg "read" s_read f fd) (T:Txt mg) (C_signs_by_square:Cal P w K mg base "signs_by_square" ["text"] 1 dn_signs_by_square) (C_flags_begun:CalN P w K mg base "flags_begun" ["signs"] 1 dn_flags_begun) (C_is_laying:Cal P w K mg base "is_laying" ["floor","flags"] 3 dn_is_laying) (C_written:Cal P w K mg base "written" ["flags"] 2 dn_written):CalU P w K mg base "read" ["text"] 4 dn_read :=
 ⟨f,fd,Dn.mg,Dn.fn.kp,Dn.fn.binds fun _ _ _ _ _ _ us hl=>by obtain ⟨_,rfl⟩:=len1 hl; rfl,fn_okU Dn.fn sc_read fun cdv A outer s H E hr gd G hx =>
  sbu_then (ss_set 1 (sf_cal (x:="signs_by_square") (ps:=["text"]) (k:=1) (j:=3) (dn:=dn_signs_by_square) (by exact C_signs_by_square) hx (by exact hr) (by decide) (by rfl) (sa_cons (sf_var 0) (sa_nil))) gd.nd)
  (sbu_then (ss_ownC 4 gd hx (si_items gd (sf_var 1)) (⟨cs_of rfl (by decide +kernel) (by decide +kernel) (by repeat first | exact True.intro | refine And.intro (by first | (intro h; exact absurd h (by decide)) | (intro _; exact Or.inl rfl) | (intro _; exact Or.inr rfl)) ?_),loc_of (N:=["text","signs","square","sign","floor","flags"]) (by decide +kernel),hset_t _ _,fun _ _ _ _=>sg_two (gd_in gd) 2 3,fun _ _ _ _ _ e1=>sc_one (st_ne (gd_in gd) (se_var 3) (SF.se (sf_gstr T.g_BARE (by rfl)))),fun _ _ _ _ _ e1=>sf_var 2⟩))
  (sbu_then (ss_own 5 (sn_cal (x:="flags_begun") (ps:=["signs"]) (k:=1) (j:=3) (dn:=dn_flags_begun) (by exact C_flags_begun) hx (by exact hr) (by decide) (by rfl) (sa_cons (sf_var 1) (sa_nil))) gd.nd)
  (sbu_then (ss_if (SW.st (sw_or (st_not (st_val (SF.se (sf_loose 5 (sf_loose 4 (sf_cal (x:="is_laying") (ps:=["floor","flags"]) (k:=3) (j:=3) (dn:=dn_is_laying) (by exact C_is_laying) hx (by exact hr) (by decide) (by rfl) (sa_cons (sf_var 4) (sa_cons (sf_var 5) (sa_nil))))))))) (sw_or1 (st_ne gd (SF.se (sf_loose 5 (sf_cal (x:="written") (ps:=["flags"]) (k:=2) (j:=3) (dn:=dn_written) (by exact C_written) hx (by exact hr) (by decide) (by rfl) (sa_cons (sf_var 5) (sa_nil))))) (se_var 0))))) (sb_one (ss_never)) (sb_nil))
  (sbu_one (ssu_ret 4 5)))))⟩
noncomputable abbrev s_law_cell_at:Stmt:=top 24
theorem sc_law_cell_at:FnScope ["script","k"] ["script","k"] (defScope s_law_cell_at):=⟨rfl,rfl,rfl,by decide +kernel,rfl,by decide +kernel,by decide +kernel⟩
theorem ok_law_cell_at {f:Addr} {fd:FuncData} (Dn:Dfn K mg "_law_cell_at" s_law_cell_at f fd) (T:Txt mg) :Cal P w K mg base "_law_cell_at" ["script","k"] 1 dn_law_cell_at :=
 ⟨f,fd,Dn.mg,Dn.fn.kp,Dn.fn.binds fun _ _ _ _ _ _ us hl=>by obtain ⟨_,_,rfl⟩:=len2 hl; rfl,fn_okG Dn.fn sc_law_cell_at fun cdv A outer s H E hr gd G hx =>
  sb_cons (ss_if (st_lt gd (se_var 1) (SF.se (sf_len  (by rfl) T.g_len (se_var 0)))) (sb_one (ss_ret (sf_at (se_var 0) (se_var 1)))) (sb_nil))
  (sb_one (ss_ret (sf_int)))⟩
noncomputable abbrev s_law_laid:Stmt:=top 25
theorem sc_law_laid:FnScope ["script","head","high","wide","top","left","number","seen","flags","k","row","column","free","lies"] ["script"] (defScope s_law_laid):=⟨rfl,rfl,rfl,by decide +kernel,rfl,by decide +kernel,by decide +kernel⟩
theorem ok_law_laid {f:Addr} {fd:FuncData} (Dn:Dfn K mg "_law_laid" s_law_laid f fd) (T:Txt mg) (C_law_cell_at:Cal P w K mg base "_law_cell_at" ["script","k"] 1 dn_law_cell_at):Cal P w K mg base "_law_laid" ["script"] 2 dn_law_laid :=
 ⟨f,fd,Dn.mg,Dn.fn.kp,Dn.fn.binds fun _ _ _ _ _ _ us hl=>by obtain ⟨_,rfl⟩:=len1 hl; rfl,fn_okG Dn.fn sc_law_laid fun cdv A outer s H E hr gd G hx =>
  sb_cons (ss_set 1 (sf_cal (x:="_law_cell_at") (ps:=["script","k"]) (k:=1) (j:=1) (dn:=dn_law_cell_at) (by exact C_law_cell_at) hx (by exact hr) (by decide) (by rfl) (sa_cons (sf_var 0) (sa_cons (sf_int) (sa_nil)))) gd.nd)
  (sb_cons (ss_set 2 (sf_add (SF.se (sf_int)) (SF.se (sf_mod (se_var 1) (SF.se (sf_int))))) gd.nd)
  (sb_cons (ss_set 3 (sf_add (SF.se (sf_int)) (SF.se (sf_mod (SF.se (sf_div (se_var 1) (SF.se (sf_int)))) (SF.se (sf_int))))) gd.nd)
  (sb_cons (ss_set 4 (sf_mod (SF.se (sf_div (se_var 1) (SF.se (sf_int)))) (SF.se (sf_sub (SF.se (sf_int)) (se_var 2)))) gd.nd)
  (sb_cons (ss_set 5 (sf_mod (SF.se (sf_div (se_var 1) (SF.se (sf_int)))) (SF.se (sf_sub (SF.se (sf_int)) (se_var 3)))) gd.nd)
  (sb_cons (ss_set 6 (sf_add (SF.se (sf_int)) (SF.se (sf_mod (SF.se (sf_cal (x:="_law_cell_at") (ps:=["script","k"]) (k:=1) (j:=1) (dn:=dn_law_cell_at) (by exact C_law_cell_at) hx (by exact hr) (by decide) (by rfl) (sa_cons (sf_var 0) (sa_cons (sf_int) (sa_nil))))) (SF.se (sf_int))))) gd.nd)
  (sb_cons (ss_own 7 (sn_dic) gd.nd)
  (sb_cons (ss_own 8 (sn_lst (sa_nil)) gd.nd)
  (sb_cons (ss_for gd (si_range1  (by rfl) T.g_range (sf_mul (se_var 2) (se_var 3))) (sg_name gd 9) (fun _ e1=>sb_cons (ss_set 10 (sf_add (se_var 4) (SF.se (sf_div (se_var 9) (se_var 3)))) gd.nd)
  (sb_cons (ss_set 11 (sf_add (se_var 5) (SF.se (sf_mod (se_var 9) (se_var 3)))) gd.nd)
  (sb_cons (ss_set 6 (sf_mod (SF.se (sf_mul (se_var 6) (SF.se (sf_int)))) (SF.se (sf_int))) gd.nd)
  (sb_cons (ss_own 12 (sn_lst (sa_nil)) gd.nd)
  (sb_cons (ss_if (SW.st (sw_and (st_dnotin gd (SF.se (sf_tup (sa_cons (sf_var 10) (sa_cons (sf_var 11) (sa_nil))))) (se_var 7)) (sw_and1 (st_ne gd (SF.se (sf_mod (SF.se (sf_div (se_var 6) (SF.se (sf_int)))) (SF.se (sf_int)))) (SF.se (sf_int)))))) (sb_cons (ss_if (SW.st (sw_and (st_lt gd (SF.se (sf_add (se_var 11) (SF.se (sf_int)))) (SF.se (sf_add (se_var 5) (se_var 3)))) (sw_and1 (st_dnotin gd (SF.se (sf_tup (sa_cons (sf_var 10) (sa_cons (sf_add (se_var 11) (SF.se (sf_int))) (sa_nil))))) (se_var 7))))) (sb_one (ss_app 12 (sf_int))) (sb_nil))
  (sb_one (ss_if (st_lt gd (SF.se (sf_add (se_var 10) (SF.se (sf_int)))) (SF.se (sf_add (se_var 4) (se_var 2)))) (sb_one (ss_app 12 (sf_int))) (sb_nil)))) (sb_nil))
  (sb_one (ss_if (st_gt gd (SF.se (sf_len  (by rfl) T.g_len (se_var 12))) (SF.se (sf_int))) (sb_cons (ss_set 13 (sf_at (se_var 12) (SF.se (sf_mod (SF.se (sf_div (se_var 6) (SF.se (sf_int)))) (SF.se (sf_len  (by rfl) T.g_len (se_var 12)))))) gd.nd)
  (sb_cons (ss_app 8 (sf_tup (sa_cons (sf_var 10) (sa_cons (sf_var 11) (sa_cons (sf_var 13) (sa_nil))))))
  (sb_cons (ss_dput 7 (hu1 gd) (SF.se (sf_tup (sa_cons (sf_var 10) (sa_cons (sf_var 11) (sa_nil))))) (sf_bl))
  (sb_one (ss_dput 7 (hu1 gd) (SF.se (sf_tup (sa_cons (sf_add (se_var 10) (se_var 13)) (sa_cons (sf_sub (SF.se (sf_add (se_var 11) (SF.se (sf_int)))) (se_var 13)) (sa_nil))))) (sf_bl)))))) (sb_nil)))))))))
  (sb_one (ss_frz 8 (ss_ret (sf_tup (sa_cons (SN.sf (sn_sortd gd  (by rfl) T.g_sorted (se_var 7))) (sa_cons (sf_var 8) (sa_nil)))))))))))))))⟩
noncomputable abbrev s_law_text:Stmt:=top 26
theorem sc_law_text:FnScope ["flags","signs","flag","text","k"] ["flags"] (defScope s_law_text):=⟨rfl,rfl,rfl,by decide +kernel,rfl,by decide +kernel,by decide +kernel⟩
theorem ok_law_text {f:Addr} {fd:FuncData} (Dn:Dfn K mg "_law_text" s_law_text f fd) (T:Txt mg) :Cal P w K mg base "_law_text" ["flags"] 1 dn_law_text :=
 ⟨f,fd,Dn.mg,Dn.fn.kp,Dn.fn.binds fun _ _ _ _ _ _ us hl=>by obtain ⟨_,rfl⟩:=len1 hl; rfl,fn_okG Dn.fn sc_law_text fun cdv A outer s H E hr gd G hx =>
  sb_cons (ss_own 1 (sn_dic) gd.nd)
  (sb_cons (ss_for gd (si_list (sf_var 0)) (sg_name gd 2) (fun _ e1=>sb_cons (ss_dput 1 (hu1 gd) (SF.se (sf_tup (sa_cons (sf_at (se_var 2) (SF.se (sf_int))) (sa_cons (sf_at (se_var 2) (SF.se (sf_int))) (sa_nil))))) (sf_at (SN.se (sn_lst (sa_cons (sf_str) (sa_cons (sf_str) (sa_nil))))) (SF.se (sf_at (se_var 2) (SF.se (sf_int))))))
  (sb_one (ss_dput 1 (hu1 gd) (SF.se (sf_tup (sa_cons (sf_add (SF.se (sf_at (se_var 2) (SF.se (sf_int)))) (SF.se (sf_at (se_var 2) (SF.se (sf_int))))) (sa_cons (sf_sub (SF.se (sf_add (SF.se (sf_at (se_var 2) (SF.se (sf_int)))) (SF.se (sf_int)))) (SF.se (sf_at (se_var 2) (SF.se (sf_int))))) (sa_nil))))) (sf_at (SN.se (sn_lst (sa_cons (sf_str) (sa_cons (sf_str) (sa_nil))))) (SF.se (sf_at (se_var 2) (SF.se (sf_int)))))))))
  (sb_cons (ss_set 3 (sf_str) gd.nd)
  (sb_cons (ss_for gd (si_range1  (by rfl) T.g_range (sf_int)) (sg_name gd 4) (fun _ e2=>sb_cons (ss_if (SW.st (sw_and (st_gt gd (se_var 4) (SF.se (sf_int))) (sw_and1 (st_eq gd (SF.se (sf_mod (se_var 4) (SF.se (sf_int)))) (SF.se (sf_int)))))) (sb_one (ss_set 3 (sf_add (se_var 3) (SF.se (sf_str))) gd.nd)) (sb_nil))
  (sb_one (ss_if (st_din gd (SF.se (sf_tup (sa_cons (sf_div (se_var 4) (SF.se (sf_int))) (sa_cons (sf_mod (se_var 4) (SF.se (sf_int))) (sa_nil))))) (se_var 1)) (sb_one (ss_set 3 (sf_add (se_var 3) (SF.se (sf_dg gd (se_var 1) (SF.se (sf_tup (sa_cons (sf_div (se_var 4) (SF.se (sf_int))) (sa_cons (sf_mod (se_var 4) (SF.se (sf_int))) (sa_nil)))))))) gd.nd)) (sb_one (ss_set 3 (sf_add (se_var 3) (SF.se (sf_str))) gd.nd))))))
  (sb_one (ss_ret (sf_var 3))))))⟩
noncomputable abbrev s_law_tuples:Stmt:=top 27
theorem sc_law_tuples:FnScope ["found","due","many","k","place"] ["found","due","many"] (defScope s_law_tuples):=⟨rfl,rfl,rfl,by decide +kernel,rfl,by decide +kernel,by decide +kernel⟩
theorem ok_law_tuples {f:Addr} {fd:FuncData} (Dn:Dfn K mg "_law_tuples" s_law_tuples f fd) (T:Txt mg) :Cal P w K mg base "_law_tuples" ["found","due","many"] 1 dn_law_tuples :=
 ⟨f,fd,Dn.mg,Dn.fn.kp,Dn.fn.binds fun _ _ _ _ _ _ us hl=>by obtain ⟨_,_,_,rfl⟩:=len3 hl; rfl,fn_okG Dn.fn sc_law_tuples fun cdv A outer s H E hr gd G hx =>
  sb_cons (ss_if (SW.st (sw_or (st_not (st_val (SF.se (sf_isi .list  (by rfl) T.g_isinstance  (by rfl) T.g_list (se_var 0))))) (sw_or1 (st_ne gd (SF.se (sf_len  (by rfl) T.g_len (se_var 0))) (SF.se (sf_len  (by rfl) T.g_len (se_var 1))))))) (sb_one (ss_ret (sf_bl))) (sb_nil))
  (sb_cons (ss_for gd (si_range1  (by rfl) T.g_range (sf_len  (by rfl) T.g_len (se_var 1))) (sg_name gd 3) (fun _ e1=>sb_cons (ss_if (SW.st (sw_or (st_not (st_val (SF.se (sf_isi .tuple  (by rfl) T.g_isinstance  (by rfl) T.g_tuple (SF.se (sf_at (se_var 0) (se_var 3))))))) (sw_or (st_ne gd (SF.se (sf_len  (by rfl) T.g_len (SF.se (sf_at (se_var 0) (se_var 3))))) (se_var 2)) (sw_or1 (st_ne gd (SF.se (sf_at (se_var 0) (se_var 3))) (SF.se (sf_at (se_var 1) (se_var 3)))))))) (sb_one (ss_ret (sf_bl))) (sb_nil))
  (sb_one (ss_for gd (si_tup (sf_at (se_var 0) (se_var 3))) (sg_name gd 4) (fun _ e2=>sb_one (ss_if (SW.st (sw_or (st_not (st_val (SF.se (sf_isi .int  (by rfl) T.g_isinstance  (by rfl) T.g_int (se_var 4))))) (sw_or1 (st_val (SF.se (sf_isi .bool  (by rfl) T.g_isinstance  (by rfl) T.g_bool (se_var 4))))))) (sb_one (ss_ret (sf_bl))) (sb_nil)))))))
  (sb_one (ss_ret (sf_bl))))⟩
noncomputable abbrev s_law_good:Stmt:=top 28
theorem sc_law_good:FnScope ["found","floor","flags"] ["found","floor","flags"] (defScope s_law_good):=⟨rfl,rfl,rfl,by decide +kernel,rfl,by decide +kernel,by decide +kernel⟩
theorem ok_law_good {f:Addr} {fd:FuncData} (Dn:Dfn K mg "_law_good" s_law_good f fd) (T:Txt mg) (C_law_tuples:Cal P w K mg base "_law_tuples" ["found","due","many"] 1 dn_law_tuples):Cal P w K mg base "_law_good" ["found","floor","flags"] 2 dn_law_good :=
 ⟨f,fd,Dn.mg,Dn.fn.kp,Dn.fn.binds fun _ _ _ _ _ _ us hl=>by obtain ⟨_,_,_,rfl⟩:=len3 hl; rfl,fn_okG Dn.fn sc_law_good fun cdv A outer s H E hr gd G hx =>
  sb_cons (ss_if (SW.st (sw_or (st_not (st_val (SF.se (sf_isi .tuple  (by rfl) T.g_isinstance  (by rfl) T.g_tuple (se_var 0))))) (sw_or1 (st_ne gd (SF.se (sf_len  (by rfl) T.g_len (se_var 0))) (SF.se (sf_int)))))) (sb_one (ss_ret (sf_bl))) (sb_nil))
  (sb_one (ss_ret (sf_and (sf_cal (x:="_law_tuples") (ps:=["found","due","many"]) (k:=1) (j:=1) (dn:=dn_law_tuples) (by exact C_law_tuples) hx (by exact hr) (by decide) (by rfl) (sa_cons (sf_at (se_var 0) (SF.se (sf_int))) (sa_cons (sf_var 1) (sa_cons (sf_int) (sa_nil))))) (sf_one (sf_cal (x:="_law_tuples") (ps:=["found","due","many"]) (k:=1) (j:=1) (dn:=dn_law_tuples) (by exact C_law_tuples) hx (by exact hr) (by decide) (by rfl) (sa_cons (sf_at (se_var 0) (SF.se (sf_int))) (sa_cons (sf_var 2) (sa_cons (sf_int) (sa_nil)))))))))⟩
noncomputable abbrev s_law:Stmt:=top 29
theorem sc_law:FnScope ["script","made","handed","text","found"] ["script"] (defScope s_law):=⟨rfl,rfl,rfl,by decide +kernel,rfl,by decide +kernel,by decide +kernel⟩
theorem fok_law {f:Addr} {fd:FuncData} (Dn:Dfn K mg "law" s_law f fd) (T:Txt mg) (C_law_laid:Cal P w K mg base "_law_laid" ["script"] 2 dn_law_laid) (C_shown:Cal P w K mg base "shown" ["floor","flags"] 5 dn_shown) (C_law_text:Cal P w K mg base "_law_text" ["flags"] 1 dn_law_text) (C_read:CalU P w K mg base "read" ["text"] 4 dn_read) (C_law_good:Cal P w K mg base "_law_good" ["found","floor","flags"] 2 dn_law_good):FnOk P w K mg base CX0 6 f fd ["script"] (spD K 1 dn_law):=fn_okG Dn.fn sc_law fun cdv A outer s H E hr gd G hx =>
  sb_cons (ss_set 1 (sf_cal (x:="_law_laid") (ps:=["script"]) (k:=2) (j:=5) (dn:=dn_law_laid) (by exact C_law_laid) hx (by exact hr) (by decide) (by rfl) (sa_cons (sf_var 0) (sa_nil))) gd.nd)
  (sb_cons (ss_set 2 (SN.sf (sn_lst (sa_cons (SN.sf (sn_list  (by rfl) T.g_list (SF.se (sf_at (se_var 1) (SF.se (sf_int)))))) (sa_cons (SN.sf (sn_list  (by rfl) T.g_list (SF.se (sf_at (se_var 1) (SF.se (sf_int)))))) (sa_nil))))) gd.nd)
  (sb_cons (ss_set 3 (sf_cal (x:="shown") (ps:=["floor","flags"]) (k:=5) (j:=5) (dn:=dn_shown) (by exact C_shown) hx (by exact hr) (by decide) (by rfl) (sa_cons (sf_at (se_var 2) (SF.se (sf_int))) (sa_cons (sf_at (se_var 2) (SF.se (sf_int))) (sa_nil)))) gd.nd)
  (sb_cons (ss_if (SW.st (sw_or (st_not (st_val (SF.se (sf_isi .str  (by rfl) T.g_isinstance  (by rfl) T.g_str (se_var 3))))) (sw_or1 (st_ne gd (se_var 3) (SF.se (sf_cal (x:="_law_text") (ps:=["flags"]) (k:=1) (j:=5) (dn:=dn_law_text) (by exact C_law_text) hx (by exact hr) (by decide) (by rfl) (sa_cons (sf_at (se_var 1) (SF.se (sf_int))) (sa_nil)))))))) (sb_one (ss_ret (sf_bl))) (sb_nil))
  (sb_cons (ss_if (SW.st (sw_or (st_ne gd (SF.se (sf_at (se_var 2) (SF.se (sf_int)))) (SF.se (sf_at (se_var 1) (SF.se (sf_int))))) (sw_or1 (st_ne gd (SF.se (sf_at (se_var 2) (SF.se (sf_int)))) (SF.se (sf_at (se_var 1) (SF.se (sf_int)))))))) (sb_one (ss_ret (sf_bl))) (sb_nil))
  (sb_found 4 (r:="read") (g:="_law_good") (kr:=4) (kg:=2) (kk:=5) gd hx (by exact C_read) (by exact C_law_good) rfl rfl (by exact hr) (by decide) (by decide) (by rfl) (by rfl) (sf_var 3) (sf_at (se_var 1) (SF.se (sf_int))) (sf_at (se_var 1) (SF.se (sf_int))) (sf_tup (sa_cons (sf_int) (sa_cons (sf_int) (sa_nil)))) (sf_tup (sa_cons (sf_int) (sa_cons (sf_int) (sa_cons (sf_int) (sa_nil)))))
  (sb_one (ss_ret (sf_cal (x:="_law_good") (ps:=["found","floor","flags"]) (k:=2) (j:=5) (dn:=dn_law_good) (by exact C_law_good) hx (by exact hr) (by decide) (by rfl) (sa_cons (sf_cal (x:="read") (ps:=["text"]) (k:=4) (j:=5) (dn:=twoL dn_read) (by exact C_read.cal) hx (by exact hr) (by decide) (by rfl) (sa_cons (sf_var 3) (sa_nil))) (sa_cons (sf_at (se_var 1) (SF.se (sf_int))) (sa_cons (sf_at (se_var 1) (SF.se (sf_int))) (sa_nil))))))))))))
theorem law_F {h:Heap} {fa:Addr} (KX:K.In h) (GX:h.Ns mainGlobals mg) (hfa:mg "law"=some (.ref fa))
  (e_on_board:∃ f,Ent K "on_board" s_on_board f)
  (e_check_floor:∃ f,Ent K "check_floor" s_check_floor f)
  (e_squares_under:∃ f,Ent K "squares_under" s_squares_under f)
  (e_are_in_order:∃ f,Ent K "are_in_order" s_are_in_order f)
  (e_all_under:∃ f,Ent K "all_under" s_all_under f)
  (e_is_laying:∃ f,Ent K "is_laying" s_is_laying f)
  (e_check_laying:∃ f,Ent K "check_laying" s_check_laying f)
  (e_written:∃ f,Ent K "written" s_written f)
  (e_shown:∃ f,Ent K "shown" s_shown f)
  (e_signs_by_square:∃ f,Ent K "signs_by_square" s_signs_by_square f)
  (e_flags_begun:∃ f,Ent K "flags_begun" s_flags_begun f)
  (e_read:∃ f,Ent K "read" s_read f)
  (e_law_cell_at:∃ f,Ent K "_law_cell_at" s_law_cell_at f)
  (e_law_laid:∃ f,Ent K "_law_laid" s_law_laid f)
  (e_law_text:∃ f,Ent K "_law_text" s_law_text f)
  (e_law_tuples:∃ f,Ent K "_law_tuples" s_law_tuples f)
  (e_law_good:∃ f,Ent K "_law_good" s_law_good f)
  (e_law:∃ f,Ent K "law" s_law f)
  (z_SIDE:∃ t,PySem.W.nsIn K mainGlobals "SIDE"=some (some (.int 8 t)))
  (z_zip:PySem.W.nsIn K mainGlobals "zip"=some none)
  (z_all:PySem.W.nsIn K mainGlobals "all"=some none)
  (z_sorted:PySem.W.nsIn K mainGlobals "sorted"=some none)
  (z_range:PySem.W.nsIn K mainGlobals "range"=some none)
  (z_BARE:∃ t,PySem.W.nsIn K mainGlobals "BARE"=some (some (.str "." t)))
  (z_len:PySem.W.nsIn K mainGlobals "len"=some none)
  (z_any:PySem.W.nsIn K mainGlobals "any"=some none)
  (z_enumerate:PySem.W.nsIn K mainGlobals "enumerate"=some none)
  (z_isinstance:PySem.W.nsIn K mainGlobals "isinstance"=some none)
  (z_list:PySem.W.nsIn K mainGlobals "list"=some none)
  (z_tuple:PySem.W.nsIn K mainGlobals "tuple"=some none)
  (z_int:PySem.W.nsIn K mainGlobals "int"=some none)
  (z_bool:PySem.W.nsIn K mainGlobals "bool"=some none)
  (z_str:PySem.W.nsIn K mainGlobals "str"=some none)
  {aG aG0 aG1:Addr} {dG dG0 dG1:Option Addr} {nG nG0 nG1:Nat} {slG slG0 slG1:Array (Option Value)} {tG0 tG1 tG2 tG3:PySem.Tok} (n_SIGNS:PySem.W.nsIn K mainGlobals "SIGNS"=some (some (.ref aG))) (l_SIGNS:K.lookup aG=some ⟨.type "tuple",dG,.seq #[.ref aG0,.ref aG1] nG,slG⟩) (l0_SIGNS:K.lookup aG0=some ⟨.type "tuple",dG0,.seq #[.str "<" tG0,.str ">" tG1] nG0,slG0⟩) (l1_SIGNS:K.lookup aG1=some ⟨.type "tuple",dG1,.seq #[.str "^" tG2,.str "v" tG3] nG1,slG1⟩)
 :∃ fd:FuncData,(∀ (s:Shared) (v:Value),BindsTo s fd ⟨[v],[]⟩ [("script",v)])/\∀ base:Heap,K.In base->base.Ns mainGlobals mg->FnOk P w K mg base CX0 6 fa fd ["script"] (spD K 1 dn_law):=by
 obtain ⟨f_on_board,e_on_board⟩:=e_on_board
 obtain ⟨fd_on_board,d_on_board⟩:=e_on_board.dfn KX GX
 obtain ⟨f_check_floor,e_check_floor⟩:=e_check_floor
 obtain ⟨fd_check_floor,d_check_floor⟩:=e_check_floor.dfn KX GX
 obtain ⟨f_squares_under,e_squares_under⟩:=e_squares_under
 obtain ⟨fd_squares_under,d_squares_under⟩:=e_squares_under.dfn KX GX
 obtain ⟨f_are_in_order,e_are_in_order⟩:=e_are_in_order
 obtain ⟨fd_are_in_order,d_are_in_order⟩:=e_are_in_order.dfn KX GX
 obtain ⟨f_all_under,e_all_under⟩:=e_all_under
 obtain ⟨fd_all_under,d_all_under⟩:=e_all_under.dfn KX GX
 obtain ⟨f_is_laying,e_is_laying⟩:=e_is_laying
 obtain ⟨fd_is_laying,d_is_laying⟩:=e_is_laying.dfn KX GX
 obtain ⟨f_check_laying,e_check_laying⟩:=e_check_laying
 obtain ⟨fd_check_laying,d_check_laying⟩:=e_check_laying.dfn KX GX
 obtain ⟨f_written,e_written⟩:=e_written
 obtain ⟨fd_written,d_written⟩:=e_written.dfn KX GX
 obtain ⟨f_shown,e_shown⟩:=e_shown
 obtain ⟨fd_shown,d_shown⟩:=e_shown.dfn KX GX
 obtain ⟨f_signs_by_square,e_signs_by_square⟩:=e_signs_by_square
 obtain ⟨fd_signs_by_square,d_signs_by_square⟩:=e_signs_by_square.dfn KX GX
 obtain ⟨f_flags_begun,e_flags_begun⟩:=e_flags_begun
 obtain ⟨fd_flags_begun,d_flags_begun⟩:=e_flags_begun.dfn KX GX
 obtain ⟨f_read,e_read⟩:=e_read
 obtain ⟨fd_read,d_read⟩:=e_read.dfn KX GX
 obtain ⟨f_law_cell_at,e_law_cell_at⟩:=e_law_cell_at
 obtain ⟨fd_law_cell_at,d_law_cell_at⟩:=e_law_cell_at.dfn KX GX
 obtain ⟨f_law_laid,e_law_laid⟩:=e_law_laid
 obtain ⟨fd_law_laid,d_law_laid⟩:=e_law_laid.dfn KX GX
 obtain ⟨f_law_text,e_law_text⟩:=e_law_text
 obtain ⟨fd_law_text,d_law_text⟩:=e_law_text.dfn KX GX
 obtain ⟨f_law_tuples,e_law_tuples⟩:=e_law_tuples
 obtain ⟨fd_law_tuples,d_law_tuples⟩:=e_law_tuples.dfn KX GX
 obtain ⟨f_law_good,e_law_good⟩:=e_law_good
 obtain ⟨fd_law_good,d_law_good⟩:=e_law_good.dfn KX GX
 obtain ⟨f_law,e_law⟩:=e_law
 obtain ⟨fd_law,d_law⟩:=e_law.dfn KX GX
 obtain ⟨t_SIDE,z_SIDE⟩:=z_SIDE
 obtain ⟨t_BARE,z_BARE⟩:=z_BARE
 have T:Txt mg:=⟨⟨_,PySem.W.mg_of KX GX z_SIDE⟩,PySem.W.mg_none_of KX GX z_zip,PySem.W.mg_none_of KX GX z_all,PySem.W.mg_none_of KX GX z_sorted,PySem.W.mg_none_of KX GX z_range,⟨_,PySem.W.mg_of KX GX z_BARE⟩,PySem.W.mg_none_of KX GX z_len,PySem.W.mg_none_of KX GX z_any,PySem.W.mg_none_of KX GX z_enumerate,PySem.W.mg_none_of KX GX z_isinstance,PySem.W.mg_none_of KX GX z_list,PySem.W.mg_none_of KX GX z_tuple,PySem.W.mg_none_of KX GX z_int,PySem.W.mg_none_of KX GX z_bool,PySem.W.mg_none_of KX GX z_str⟩
 have SA:Sgn K mg:=signs_ex KX GX n_SIGNS l_SIGNS l0_SIGNS l1_SIGNS
 refine law_end hfa d_law (Fun.one d_law.fn fun _ _ _ _ _ _ _=>rfl) fun base=>?_
 have C_law_cell_at:Cal P w K mg base "_law_cell_at" ["script","k"] 1 dn_law_cell_at:=ok_law_cell_at d_law_cell_at T
 have C_law_laid:Cal P w K mg base "_law_laid" ["script"] 2 dn_law_laid:=ok_law_laid d_law_laid T C_law_cell_at
 have C_on_board:Cal P w K mg base "on_board" ["square"] 1 dn_on_board:=ok_on_board d_on_board T
 have C_check_floor:Cal P w K mg base "check_floor" ["floor"] 2 dn_check_floor:=ok_check_floor d_check_floor T C_on_board
 have C_are_in_order:Cal P w K mg base "are_in_order" ["flags"] 1 dn_are_in_order:=ok_are_in_order d_are_in_order T
 have C_squares_under:Cal P w K mg base "squares_under" ["flag"] 1 dn_squares_under:=ok_squares_under d_squares_under T
 have C_all_under:Cal P w K mg base "all_under" ["flags"] 2 dn_all_under:=ok_all_under d_all_under T C_squares_under
 have C_is_laying:Cal P w K mg base "is_laying" ["floor","flags"] 3 dn_is_laying:=ok_is_laying d_is_laying T C_check_floor C_are_in_order C_all_under
 have C_check_laying:Cal P w K mg base "check_laying" ["floor","flags"] 4 dn_check_laying:=ok_check_laying d_check_laying T C_is_laying
 have C_written:Cal P w K mg base "written" ["flags"] 2 dn_written:=ok_written d_written T SA C_squares_under
 have C_shown:Cal P w K mg base "shown" ["floor","flags"] 5 dn_shown:=ok_shown d_shown T C_check_laying C_written
 have C_law_text:Cal P w K mg base "_law_text" ["flags"] 1 dn_law_text:=ok_law_text d_law_text T
 have C_signs_by_square:Cal P w K mg base "signs_by_square" ["text"] 1 dn_signs_by_square:=ok_signs_by_square d_signs_by_square T
 have C_flags_begun:CalN P w K mg base "flags_begun" ["signs"] 1 dn_flags_begun:=ok_flags_begun d_flags_begun T SA
 have C_read:CalU P w K mg base "read" ["text"] 4 dn_read:=ok_read d_read T C_signs_by_square C_flags_begun C_is_laying C_written
 have C_law_tuples:Cal P w K mg base "_law_tuples" ["found","due","many"] 1 dn_law_tuples:=ok_law_tuples d_law_tuples T
 have C_law_good:Cal P w K mg base "_law_good" ["found","floor","flags"] 2 dn_law_good:=ok_law_good d_law_good T C_law_tuples
 exact fok_law d_law T C_law_laid C_shown C_law_text C_read C_law_good
end
theorem walk {l:PySem.W.OpenLaw} {q:Program} {loose:List Str} {XP:(Str->Option Value)->Heap->Prop} {YP:World->Heap->Prop} {d:DefRec} {K:Params->PySem.W.Frag} (hn:l.most=some 63) (hdf:d.params.defaults=[])
  (hY:∀ (w:World) (h:Heap),YP w h->(K w.params).In h) (hm:∀ ns:List Int,ns.length<=63->dn_law [.scr ns]=.ok (.bl true))
  (F:∀ (w:World) (mg:Str->Option Value) (fa:Addr) (h:Heap),(K w.params).In h->h.Ns mainGlobals mg->mg d.name=some (.ref fa) →
   ∃ fd:FuncData,(∀ (s:Shared) (u:Value),BindsTo s fd ⟨[u],[]⟩ [("script",u)])/\∀ base:Heap,(K w.params).In base->base.Ns mainGlobals mg->FnOk l.prog w (K w.params) mg base CX0 6 fa fd ["script"] (spD (K w.params) 1 dn_law)) :
  PySem.W.WalkO q loose XP YP l.row.toRowW d [] (fun f vs=>PySem.call f vs) :=
 L2.walk_ofK (n:=63) (k:=6) (x:="script") (CX:=CX0) (sp:=fun K=>spD K 1 dn_law) hn (by decide) hdf ⟨rfl,by decide,by decide⟩ hY F (fun K H a ns hl _ hS=>sp_law hl hS hm) fun _ _ _ _ z=>z
end M

set_option Elab.async false
set_option linter.all false
open PySem PySem.W PyProof.Rows
noncomputable def PySem.W.Fast.tw3384522913518794018:PySem.Program:=PySem.Challenge.pw_flagfloor_k16_written_and_read
theorem PySem.W.Fast.te3384522913518794018:PySem.Challenge.pw_flagfloor_k16_written_and_read=PySem.W.Fast.tw3384522913518794018:=rfl
set_option maxRecDepth 100000 in
set_option maxHeartbeats 0 in
theorem PySem.Challenge.cw_flagfloor_k16_written_and_read_holds : PySem.Challenge.rw_flagfloor_k16_written_and_read.Holds := by
 w_on; o_law; k_head; (case hw=>w_witness2)
 k_fill
 refine M.walk (l:=PySem.Challenge.rw_flagfloor_k16_written_and_read) rfl rfl (fun w h Y=>PySem.W.kIn_of Y) M.law_true ?F
 case F =>
  intro w mg fa h KX GX hmg
  refine' M.law_F KX GX hmg
   (M.ent_ex KX ?a_on_board ?l_on_board ?c_on_board ?k_on_board)
   (M.ent_ex KX ?a_check_floor ?l_check_floor ?c_check_floor ?k_check_floor)
   (M.ent_ex KX ?a_squares_under ?l_squares_under ?c_squares_under ?k_squares_under)
   (M.ent_ex KX ?a_are_in_order ?l_are_in_order ?c_are_in_order ?k_are_in_order)
   (M.ent_ex KX ?a_all_under ?l_all_under ?c_all_under ?k_all_under)
   (M.ent_ex KX ?a_is_laying ?l_is_laying ?c_is_laying ?k_is_laying)
   (M.ent_ex KX ?a_check_laying ?l_check_laying ?c_check_laying ?k_check_laying)
   (M.ent_ex KX ?a_written ?l_written ?c_written ?k_written)
   (M.ent_ex KX ?a_shown ?l_shown ?c_shown ?k_shown)
   (M.ent_ex KX ?a_signs_by_square ?l_signs_by_square ?c_signs_by_square ?k_signs_by_square)
   (M.ent_ex KX ?a_flags_begun ?l_flags_begun ?c_flags_begun ?k_flags_begun)
   (M.ent_ex KX ?a_read ?l_read ?c_read ?k_read)
   (M.ent_ex KX ?a_law_cell_at ?l_law_cell_at ?c_law_cell_at ?k_law_cell_at)
   (M.ent_ex KX ?a_law_laid ?l_law_laid ?c_law_laid ?k_law_laid)
   (M.ent_ex KX ?a_law_text ?l_law_text ?c_law_text ?k_law_text)
   (M.ent_ex KX ?a_law_tuples ?l_law_tuples ?c_law_tuples ?k_law_tuples)
   (M.ent_ex KX ?a_law_good ?l_law_good ?c_law_good ?k_law_good)
   (M.ent_ex KX ?a_law ?l_law ?c_law ?k_law)
   (M.int_ex KX ?z_SIDE)
   ?z_zip
   ?z_all
   ?z_sorted
   ?z_range
   (M.str_ex KX ?z_BARE)
   ?z_len
   ?z_any
   ?z_enumerate
   ?z_isinstance
   ?z_list
   ?z_tuple
   ?z_int
   ?z_bool
   ?z_str
   ?n_SIGNS ?l_SIGNS ?l0_SIGNS ?l1_SIGNS
  (case n_SIGNS=>k_is); (case l_SIGNS=>k_is); (case l0_SIGNS=>k_is); (case l1_SIGNS=>k_is)
  (case a_on_board=>k_is); (case l_on_board=>k_is); (case c_on_board=>k_is); (case k_on_board=>k_is)
  (case a_check_floor=>k_is); (case l_check_floor=>k_is); (case c_check_floor=>k_is); (case k_check_floor=>k_is)
  (case a_squares_under=>k_is); (case l_squares_under=>k_is); (case c_squares_under=>k_is); (case k_squares_under=>k_is)
  (case a_are_in_order=>k_is); (case l_are_in_order=>k_is); (case c_are_in_order=>k_is); (case k_are_in_order=>k_is)
  (case a_all_under=>k_is); (case l_all_under=>k_is); (case c_all_under=>k_is); (case k_all_under=>k_is)
  (case a_is_laying=>k_is); (case l_is_laying=>k_is); (case c_is_laying=>k_is); (case k_is_laying=>k_is)
  (case a_check_laying=>k_is); (case l_check_laying=>k_is); (case c_check_laying=>k_is); (case k_check_laying=>k_is)
  (case a_written=>k_is); (case l_written=>k_is); (case c_written=>k_is); (case k_written=>k_is)
  (case a_shown=>k_is); (case l_shown=>k_is); (case c_shown=>k_is); (case k_shown=>k_is)
  (case a_signs_by_square=>k_is); (case l_signs_by_square=>k_is); (case c_signs_by_square=>k_is); (case k_signs_by_square=>k_is)
  (case a_flags_begun=>k_is); (case l_flags_begun=>k_is); (case c_flags_begun=>k_is); (case k_flags_begun=>k_is)
  (case a_read=>k_is); (case l_read=>k_is); (case c_read=>k_is); (case k_read=>k_is)
  (case a_law_cell_at=>k_is); (case l_law_cell_at=>k_is); (case c_law_cell_at=>k_is); (case k_law_cell_at=>k_is)
  (case a_law_laid=>k_is); (case l_law_laid=>k_is); (case c_law_laid=>k_is); (case k_law_laid=>k_is)
  (case a_law_text=>k_is); (case l_law_text=>k_is); (case c_law_text=>k_is); (case k_law_text=>k_is)
  (case a_law_tuples=>k_is); (case l_law_tuples=>k_is); (case c_law_tuples=>k_is); (case k_law_tuples=>k_is)
  (case a_law_good=>k_is); (case l_law_good=>k_is); (case c_law_good=>k_is); (case k_law_good=>k_is)
  (case a_law=>k_is); (case l_law=>k_is); (case c_law=>k_is); (case k_law=>k_is)
  (case z_SIDE=>k_is)
  (case z_zip=>k_is)
  (case z_all=>k_is)
  (case z_sorted=>k_is)
  (case z_range=>k_is)
  (case z_BARE=>k_is)
  (case z_len=>k_is)
  (case z_any=>k_is)
  (case z_enumerate=>k_is)
  (case z_isinstance=>k_is)
  (case z_list=>k_is)
  (case z_tuple=>k_is)
  (case z_int=>k_is)
  (case z_bool=>k_is)
  (case z_str=>k_is)

