import PyProof.Rows.All
import Wide.All
import OpenK.AllK
import Wide.FinOn
import Lean
import PyProof.EqAt
import PyProof.EqKinds
import PyProof.TupleCall
import PySem.Challenge.RW_restfigures_k20_whole_tidy_programs
set_option Elab.async false
set_option compiler.extract_closed false
set_option linter.all false
set_option maxRecDepth 100000
namespace L2
open PySem PySem.Spec PyProof.Rows
noncomputable abbrev Key := Sum Int Str
noncomputable def keyIs : Key → Value → Bool
  | .inl k, v => Value.isInt k v
  | .inr x, v => Value.isStrOf x v
noncomputable def keyH (w : World) : Key → Int
  | .inl k => hashInt k
  | .inr x => hashStr w x
theorem keyIs_shape : ∀ {k : Key} {v : Value}, keyIs k v = true → (∃ i t, k = Sum.inl i ∧ v = Value.int i t) ∨ (∃ x t, k = Sum.inr x ∧ v = Value.str x t)
  | .inl i, v, h => by
    obtain ⟨t, e⟩ := Value.isInt_shape (k := i) (v := v) h
    exact .inl ⟨i, t, rfl, e⟩
  | .inr x, v, h => by
    obtain ⟨t, e⟩ := Value.isStrOf_shape (x := x) (v := v) h
    exact .inr ⟨x, t, rfl, e⟩
theorem keyIs_int (i : Int) (t : Tok) : keyIs (.inl i) (.int i t) = true := by simp [keyIs, Value.isInt]
theorem keyIs_str (x : Str) (t : Tok) : keyIs (.inr x) (.str x t) = true := by simp [keyIs, Value.isStrOf]
theorem key_ll (a b : Int) : decide ((Sum.inl a : Key) = Sum.inl b) = (a == b) := by
  by_cases e : a = b
  · subst e; simp
  · have h : ¬ (Sum.inl a : Key) = Sum.inl b := fun q => e (Sum.inl.inj q)
    rw [decide_eq_false h]
    exact (beq_eq_false_iff_ne.mpr e).symm
theorem key_rr (a b : Str) : decide ((Sum.inr a : Key) = Sum.inr b) = decide (a = b) := by
  by_cases e : a = b
  · subst e; simp
  · have h : ¬ (Sum.inr a : Key) = Sum.inr b := fun q => e (Sum.inr.inj q)
    rw [decide_eq_false h, decide_eq_false e]
theorem key_lr (a : Int) (b : Str) : decide ((Sum.inl a : Key) = Sum.inr b) = false := decide_eq_false (fun q => nomatch q)
theorem key_rl (a : Str) (b : Int) : decide ((Sum.inr a : Key) = Sum.inl b) = false := decide_eq_false (fun q => nomatch q)
noncomputable def mixKind (prog : Program) (w : World) : PySem.KeyKind prog w Key where
  is := keyIs
  hash := keyH w
  inj := fun v a b ha hb => by
    rcases keyIs_shape ha with ⟨i, t, rfl, rfl⟩ | ⟨x, t, rfl, rfl⟩
    · rcases keyIs_shape hb with ⟨j, u, rfl, e⟩ | ⟨y, u, rfl, e⟩
      · injection e with e1 _; rw [e1]
      · exact nomatch e
    · rcases keyIs_shape hb with ⟨j, u, rfl, e⟩ | ⟨y, u, rfl, e⟩
      · exact nomatch e
      · injection e with e1 _; rw [e1]
  byValue := fun k v h => by
    rcases keyIs_shape h with ⟨i, t, rfl, rfl⟩ | ⟨x, t, rfl, rfl⟩ <;> rfl
  pyHash := fun hv h => by
    rcases keyIs_shape hv with ⟨i, t, rfl, rfl⟩ | ⟨x, t, rfl, rfl⟩
    · exact wpAny_pyHash_int h
    · exact wpAny_pyHash_str h
  eqBool := fun hu hv h => by
    rcases keyIs_shape hu with ⟨i, t, rfl, rfl⟩ | ⟨x, t, rfl, rfl⟩
    · rcases keyIs_shape hv with ⟨j, u, rfl, rfl⟩ | ⟨y, u, rfl, rfl⟩
      · rw [key_ll] at h; exact wpAny_eqBool_int h
      · rw [key_lr] at h; exact SeqAt.EqAt.int_str i t y u _ _ _ _ h
    · rcases keyIs_shape hv with ⟨j, u, rfl, rfl⟩ | ⟨y, u, rfl, rfl⟩
      · rw [key_rl] at h; exact SeqAt.EqAt.str_int x t j u _ _ _ _ h
      · rw [key_rr] at h; exact wpAny_eqBool_str h
  «strs» := fun k x t v h => by
    rcases keyIs_shape h with ⟨i, u, rfl, e⟩ | ⟨y, u, rfl, e⟩
    · exact nomatch e
    · injection e with e1 _
      subst e1
      cases v <;> rfl
theorem mixKind_int (prog : Program) (w : World) (i : Int) (t : Tok) : (mixKind prog w).is (.inl i) (.int i t) = true := keyIs_int i t
theorem mixKind_str (prog : Program) (w : World) (x : Str) (t : Tok) : (mixKind prog w).is (.inr x) (.str x t) = true := keyIs_str x t
end L2
namespace L2
open PySem PySem.Spec PyProof.Rows
inductive V where
  | non | bl (b : Bool) | int (i : Int) | str (x : Str) | byt (b : Array UInt8) | flt (b : UInt64) | ref (a : Addr) | ty (n : String)
  deriving DecidableEq
noncomputable def RelV : V → Value → Prop
  | .non, u => u = Value.none
  | .bl b, u => u = Value.bool b
  | .int i, u => ∃ t, u = Value.int i t
  | .str x, u => ∃ t, u = Value.str x t
  | .byt b, u => ∃ t, u = Value.bytes b t
  | .flt b, u => ∃ t, u = Value.float b t
  | .ref a, u => u = Value.ref a
  | .ty n, u => u = Value.type n
noncomputable abbrev Vals : List V → List Value → Prop := Paired RelV
theorem Vals.length {xs : List V} {us : List Value} (r : Vals xs us) : xs.length = us.length := Paired.length r
theorem Vals.get : ∀ {xs : List V} {us : List Value} {i : Nat} {x : V}, Vals xs us → xs[i]? = some x → ∃ u, us[i]? = some u ∧ RelV x u
  | _, _, _, _, .nil, e => by simp at e
  | _, _, 0, _, .cons r _, e => by simp at e; subst e; exact ⟨_, rfl, r⟩
  | _, _, i + 1, x, .cons _ t, e => by
    obtain ⟨u, h1, h2⟩ := Vals.get (i := i) (x := x) t (by simpa using e)
    exact ⟨u, by simpa using h1, h2⟩
theorem Vals.set {x : V} {u : Value} (r : RelV x u) : ∀ {xs : List V} {us : List Value} (i : Nat), Vals xs us → Vals (xs.set i x) (us.set i u)
  | _, _, _, .nil => .nil
  | _, _, 0, .cons _ t => .cons r t
  | _, _, i + 1, .cons q t => .cons q (Vals.set r i t)
theorem Vals.append : ∀ {xs ys : List V} {us ws : List Value}, Vals xs us → Vals ys ws → Vals (xs ++ ys) (us ++ ws)
  | _, _, _, _, .nil, s => s
  | _, _, _, _, .cons r t, s => .cons r (Vals.append t s)
theorem Vals.take : ∀ {xs : List V} {us : List Value} (n : Nat), Vals xs us → Vals (xs.take n) (us.take n)
  | _, _, 0, _ => .nil
  | _, _, _ + 1, .nil => .nil
  | _, _, n + 1, .cons r t => .cons r (Vals.take n t)
theorem Vals.drop : ∀ {xs : List V} {us : List Value} (n : Nat), Vals xs us → Vals (xs.drop n) (us.drop n)
  | _, _, 0, r => r
  | _, _, _ + 1, .nil => .nil
  | _, _, n + 1, .cons _ t => Vals.drop n t
theorem Vals.none_of : ∀ {xs : List V} {us : List Value} {i : Nat}, Vals xs us → xs[i]? = none → us[i]? = none := fun {xs us i} r e => by
  have h1 := r.length
  have h2 : xs.length ≤ i := List.getElem?_eq_none_iff.mp e
  exact List.getElem?_eq_none_iff.mpr (by omega)
noncomputable def RelO : Option V → Option Value → Prop
  | some v, some u => RelV v u
  | none, none => True
  | _, _ => False
noncomputable def KV {κ : Type} : List (κ × V) → List (κ × Value) → Prop := Paired fun (p : κ × V) (q : κ × Value) => p.1 = q.1 ∧ RelV p.2 q.2
noncomputable def kV : Key → V
  | .inl i => .int i
  | .inr x => .str x
inductive HO where
  | lst (xs : List V)
  | tup (xs : List V)
  | dK (kvs : List (Key × V)) | dT (kvs : List (List Key × V))
  | set (S : Int → Bool) (n : Nat)
  | ins (C dx : Addr) (fs : List (Str × V))
  | own (x : Addr)
  | xd (fs : List (Str × V))
  | met (f x : Addr)
  | rng (lo hi : Int)
  | frz (o : Obj) (u : HO)
  | tbl (ps : Array Value)
  | ext (φ : Heap → Prop)
noncomputable abbrev Hp := Addr → Option HO
noncomputable def upd (H : Hp) (a : Addr) (o : HO) : Hp := fun b => if b = a then some o else H b
theorem upd_same {H : Hp} {a : Addr} {o : HO} : upd H a o a = some o := by unfold upd; rw [if_pos rfl]
theorem upd_ne {H : Hp} {a b : Addr} {o : HO} (h : b ≠ a) : upd H a o b = H b := by unfold upd; rw [if_neg h]
theorem ne_of {H : Hp} {a b : Addr} {o u : HO} (h : H a = some o) (h' : H b = some u) (d : o ≠ u) : a ≠ b := by
  intro e; subst e; rw [h] at h'; exact d (Option.some.inj h')
theorem ne_of_none {H : Hp} {a b : Addr} {o : HO} (h : H a = some o) (h' : H b = none) : a ≠ b := by
  intro e; subst e; rw [h] at h'; cases h'
section
variable (P : Program) (w : World)
noncomputable def ObjOk (H : Hp) (h : Heap) (a : Addr) : HO → Prop
  | .lst xs => xs.length ≤ sizeLine ∧ ∃ (its : List Value) (n : Nat), Vals xs its ∧ h.get? a = some { cls := .type "list", data := .seq its.toArray n }
  | .tup xs => xs.length ≤ sizeLine ∧ ∃ its : List Value, Vals xs its ∧ IsTup h a its.toArray
  | .dK kvs => kvs.length ≤ sizeLine ∧ (a == sysModules) = false ∧ ∃ vs, KV kvs vs ∧ h.DictOf (mixKind P w) a vs
  | .dT kvs => kvs.length ≤ sizeLine ∧ (a == sysModules) = false ∧ ∃ xs : List (List Key × Addr × Value),
      Paired (fun (p : List Key × V) (q : List Key × Addr × Value) => p.1 = q.1 ∧ H q.2.1 = some (.tup (p.1.map kV)) ∧ RelV p.2 q.2.2) kvs xs ∧
      ∃ o es ep, h.get? a = some o ∧ o.ExactDict ∧ o.data = .dict es ep ∧ es.toList = xs.map (entryOfKey (tupleKind (mixKind P w))) ∧ (xs.map (·.1)).Nodup
  | .set S n => h.SetOf (intKind P w) a S n
  | .ins C dx fs => H dx = some (.own a) ∧ fs.length ≤ 1000 ∧ dx ≠ a ∧ h.get? a = some (PySem.W.instObj C dx) ∧
      ∃ mA, h.Ns1 dx mA ∧ (∀ f, RelO (fs.lookup f) (mA f)) ∧ PySem.Within mA (fs.map (·.1))
  | .own _ => ∃ o, h.get? a = some o
  | .xd fs => ∃ mA, h.Ns1 a mA ∧ ∀ f, RelO (fs.lookup f) (mA f)
  | .rng lo hi => ∃ t u v, h.get? a = some { cls := .type "range", data := .fields #[.int lo t, .int hi u, .int 1 v] }
  | .frz o u => h.get? a = some o ∧ ObjOk H h a u
  | .tbl ps => h.get? a = some { cls := .none, data := .fields ps }
  | .met f x => h.get? a = some (PySem.W.methodObj (.ref f) (.ref x))
  | .ext φ => φ h ∧ (∃ o, h.get? a = some o) ∧ ∀ h1 h2 : Heap, φ h1 → (∀ o, h1.get? a = some o → h2.get? a = some o) → φ h2
noncomputable def HOk (H : Hp) (h : Heap) : Prop := ∀ a o, H a = some o → ObjOk P w H h a o
end
section
variable {P : Program} {w : World} {H H' : Hp} {h h' : Heap} {a : Addr} {o : HO}
theorem ObjOk.lt (x : ObjOk P w H h a o) : a < h.objs.size := by
  cases o with
  | lst xs => obtain ⟨_, _, _, _, e⟩ := x; exact Heap.lt_size e
  | tup xs => obtain ⟨_, _, _, p⟩ := x; exact p.lt
  | dK kvs => obtain ⟨_, _, _, _, o, _, _, e, _⟩ := x; exact Heap.lt_size e
  | dT kvs => obtain ⟨_, _, _, _, o, _, _, e, _⟩ := x; exact Heap.lt_size e
  | set S n => obtain ⟨o, _, _, _, e, _⟩ := x; exact Heap.lt_size e
  | ins C dx fs => obtain ⟨_, _, _, e, _⟩ := x; exact Heap.lt_size e
  | own y => obtain ⟨_, e⟩ := x; exact Heap.lt_size e
  | xd fs => obtain ⟨_, ⟨_, _, _, e, _⟩, _⟩ := x; exact Heap.lt_size e
  | rng lo hi => obtain ⟨_, _, _, e⟩ := x; exact Heap.lt_size e
  | frz ob u => obtain ⟨e, _⟩ := x; exact Heap.lt_size e
  | tbl ps => exact Heap.lt_size (show h.get? a = some _ from x)
  | met f y => exact Heap.lt_size (show h.get? a = some _ from x)
  | ext φ => obtain ⟨_, ⟨_, e⟩, _⟩ := x; exact Heap.lt_size e
theorem Paired.mapP {α β : Type} {F G : α → β → Prop} : ∀ {l₁ : List α} {l₂ : List β}, Paired F l₁ l₂ → (∀ a b, F a b → G a b) → Paired G l₁ l₂
  | _, _, .nil, _ => .nil
  | _, _, .cons r t, f => .cons (f _ _ r) (Paired.mapP t f)
theorem ObjOk.stay (x : ObjOk P w H h a o) (k : ∀ b u, (b = a ∨ H b = some (.own a)) → h.get? b = some u → h'.get? b = some u)
    (ho : ∀ b, H b = some (.own a) → H' b = some (.own a)) (ht : ∀ b xs, H b = some (.tup xs) → H' b = some (.tup xs)) : ObjOk P w H' h' a o := by
  induction o with
  | lst xs => obtain ⟨z, its, n, r, e⟩ := x; exact ⟨z, its, n, r, k _ _ (.inl rfl) e⟩
  | tup xs => obtain ⟨z, its, r, ob, e, c⟩ := x; exact ⟨z, its, r, ob, k _ _ (.inl rfl) e, c⟩
  | dK kvs => obtain ⟨z, y, vs, r, ob, es, ep, e, c⟩ := x; exact ⟨z, y, vs, r, ob, es, ep, k _ _ (.inl rfl) e, c⟩
  | dT kvs =>
    obtain ⟨z, y, xs, r, ob, es, ep, e, c⟩ := x
    exact ⟨z, y, xs, Paired.mapP r fun p q z => ⟨z.1, ht _ _ z.2.1, z.2.2⟩, ob, es, ep, k _ _ (.inl rfl) e, c⟩
  | set S n => obtain ⟨ob, es, ep, t, e, c⟩ := x; exact ⟨ob, es, ep, t, k _ _ (.inl rfl) e, c⟩
  | ins C dx fs =>
    obtain ⟨d, z, ne, e, mA, ⟨od, es, ep, e2, c⟩, r⟩ := x
    exact ⟨ho _ d, z, ne, k _ _ (.inl rfl) e, mA, ⟨od, es, ep, k _ _ (.inr d) e2, c⟩, r⟩
  | own y => obtain ⟨ob, e⟩ := x; exact ⟨ob, k _ _ (.inl rfl) e⟩
  | xd fs => obtain ⟨mA, ⟨od, es, ep, e, c⟩, r⟩ := x; exact ⟨mA, ⟨od, es, ep, k _ _ (.inl rfl) e, c⟩, r⟩
  | rng lo hi => obtain ⟨t, u, v, e⟩ := x; exact ⟨t, u, v, k _ _ (.inl rfl) e⟩
  | frz ob u ih => obtain ⟨e, q⟩ := x; exact ⟨k _ _ (.inl rfl) e, ih q⟩
  | tbl ps =>
    have e : h.get? a = some { cls := .none, data := .fields ps } := x
    show h'.get? a = some { cls := .none, data := .fields ps }
    exact k a _ (.inl rfl) e
  | met f y =>
    have e : h.get? a = some (PySem.W.methodObj (.ref f) (.ref y)) := x
    show h'.get? a = some (PySem.W.methodObj (.ref f) (.ref y))
    exact k a _ (.inl rfl) e
  | ext φ => obtain ⟨p, ⟨o, e⟩, st⟩ := x; exact ⟨st _ _ p fun o q => k _ _ (.inl rfl) q, ⟨o, k _ _ (.inl rfl) e⟩, st⟩
theorem HOk.lt (x : HOk P w H h) (e : H a = some o) : a < h.objs.size := (x a o e).lt
theorem HOk.fresh (x : HOk P w H h) (e : h.objs.size ≤ a) : H a = none := by
  cases q : H a with
  | none => rfl
  | some u => exact absurd (Nat.lt_of_lt_of_le (x.lt q) e) (Nat.lt_irrefl _)
theorem HOk.kept (x : HOk P w H h) (k : ∀ b u, h.get? b = some u → h'.get? b = some u) : HOk P w H h' := fun a o e =>
  (x a o e).stay (fun b u _ q => k b u q) (fun _ q => q) fun _ _ q => q
theorem HOk.laid (x : HOk P w H h) (k : ∀ b u, h.get? b = some u → h'.get? b = some u) (hp : h.objs.size ≤ a) (new : ObjOk P w (upd H a o) h' a o) : HOk P w (upd H a o) h' := fun b u e => by
  have hn := x.fresh hp
  by_cases hb : b = a
  · subst hb; rw [upd_same] at e; cases e; exact new
  · rw [upd_ne hb] at e
    exact (x b u e).stay (fun c v _ q => k c v q) (fun c q => by rw [upd_ne (ne_of_none q hn)]; exact q) fun c xs q => by rw [upd_ne (ne_of_none q hn)]; exact q
end
noncomputable def Rd (H : Hp) (a : Addr) (u : HO) : Prop := H a = some u ∨ ∃ o, H a = some (.frz o u)
theorem Rd.ok {P : Program} {w : World} {H : Hp} {h : Heap} {a : Addr} {u : HO} (r : Rd H a u) (x : HOk P w H h) : ObjOk P w H h a u := by
  rcases r with r | ⟨o, r⟩
  · exact x a u r
  · obtain ⟨_, q⟩ := x a _ r
    exact q
noncomputable def Mut : Option HO → Prop
  | some (.lst _) => True
  | some (.dK _) => True
  | some (.dT _) => True
  | some (.set _ _) => True
  | some (.ins _ _ _) => True
  | some (.ext _) => True
  | _ => False
section
variable {P : Program} {w : World} {H : Hp} {h h' : Heap} {x e : Addr} {o' : HO}
theorem HOk.write (ok : HOk P w H h) (mu : Mut (H x)) (he : e = x ∨ H e = some (.own x)) (k : ∀ b u, b ≠ e → h.get? b = some u → h'.get? b = some u) (heo : ∃ u, h'.get? e = some u)
    (new : ObjOk P w (upd H x o') h' x o') : HOk P w (upd H x o') h' := fun b u q => by
  have nown : ∀ c y, H c = some (.own y) → c ≠ x := fun c y r z => by subst z; rw [r] at mu; exact mu
  have ntup : ∀ c xs, H c = some (.tup xs) → c ≠ x := fun c xs r z => by subst z; rw [r] at mu; exact mu
  by_cases hb : b = x
  · subst hb; rw [upd_same] at q; cases q; exact new
  · rw [upd_ne hb] at q
    by_cases hbe : b = e
    · have q' : H b = some (.own x) := by
        rcases he with z | z
        · exact absurd (hbe.trans z) hb
        · rw [hbe]; exact z
      rw [q] at q'; cases q'
      obtain ⟨v, hv⟩ := heo
      exact ⟨v, by rw [hbe]; exact hv⟩
    · refine (ok b u q).stay (fun c v hc r => k c v ?_ r) (fun c r => by rw [upd_ne (nown c b r)]; exact r) fun c xs r => by rw [upd_ne (ntup c xs r)]; exact r
      rcases hc with rfl | hc
      · exact hbe
      · rintro rfl
        rcases he with z | z
        · exact nown c b hc z
        · rw [hc] at z; cases z; exact hb rfl
end
structure Un (fs ex : List Addr) (H H' : Hp) (h h' : Heap) : Prop where
  keep : ∀ b o, h.get? b = some o → H b = none → b ∉ fs → b ∉ ex → h'.get? b = some o
  slot : ∀ b o, h.get? b = some o → H b = none → b ∈ fs → b ∉ ex → ∃ sl, h'.get? b = some { o with slots := sl }
  free : ∀ b o, h.get? b = some o → H b = none → b ∉ ex → H' b = none
  there : ∀ b o, h.get? b = some o → b ∉ ex → ∃ o', h'.get? b = some o'
  tups : ∀ b xs, H b = some (.tup xs) → H' b = some (.tup xs)
  frzs : ∀ b o u, H b = some (.frz o u) → H' b = some (.frz o u)
  tbls : ∀ b ps, H b = some (.tbl ps) → ∃ more, H' b = some (.tbl (ps ++ more))
section
variable {fs fs' ex ex' : List Addr} {H H1 H2 : Hp} {h h1 h2 h' : Heap} {a x e : Addr} {o : HO}
theorem Un.any (u : Un fs ex H H1 h h1) {b : Addr} {ob : Obj} (q : h.get? b = some ob) (n : H b = none) (hx : b ∉ ex) : ∃ sl, h1.get? b = some { ob with slots := sl } := by
  by_cases hb : b ∈ fs
  · exact u.slot b ob q n hb hx
  · exact ⟨ob.slots, u.keep b ob q n hb hx⟩
theorem Un.kept (k : ∀ b u, h.get? b = some u → h'.get? b = some u) : Un fs ex H H h h' :=
  ⟨fun b ob q _ _ _ => k b ob q, fun b ob q _ _ _ => ⟨ob.slots, k b ob q⟩, fun _ _ _ n _ => n, fun b ob q _ => ⟨ob, k b ob q⟩, fun _ _ q => q, fun _ _ _ q => q, fun _ ps q => ⟨#[], by rw [q]; simp⟩⟩
theorem Un.refl : Un fs ex H H h h := Un.kept fun _ _ q => q
theorem Un.laid (k : ∀ b u, h.get? b = some u → h'.get? b = some u) (hp : h.objs.size ≤ a) (hn : H a = none) : Un fs ex H (upd H a o) h h' where
  keep := fun b u q _ _ _ => k b u q
  slot := fun b u q _ _ _ => ⟨u.slots, k b u q⟩
  free := fun b u q n _ => by rw [upd_ne (Nat.ne_of_lt (Nat.lt_of_lt_of_le (Heap.lt_size q) hp))]; exact n
  there := fun b u q _ => ⟨u, k b u q⟩
  tups := fun b xs q => by rw [upd_ne (ne_of_none q hn)]; exact q
  frzs := fun b u xs q => by rw [upd_ne (ne_of_none q hn)]; exact q
  tbls := fun b ps q => ⟨#[], by rw [upd_ne (ne_of_none q hn), q]; simp⟩
theorem Un.write (mu : Mut (H x)) (he : e = x ∨ H e = some (.own x)) (k : ∀ b u, b ≠ e → h.get? b = some u → h'.get? b = some u) (heo : ∃ u, h'.get? e = some u) : Un fs ex H (upd H x o) h h' := by
  have hx : ∀ b, H b = none → b ≠ x := fun b n z => by subst z; rw [n] at mu; exact mu
  have hb : ∀ b, H b = none → b ≠ e := fun b n z => by
    subst z
    rcases he with r | r
    · exact hx b n r
    · rw [n] at r; cases r
  have hm : ∀ b u, H b = some u → ¬ Mut (some u) → b ≠ x := fun b u q nm z => by subst z; rw [q] at mu; exact nm mu
  refine ⟨fun b u q n _ _ => k b u (hb b n) q, fun b u q n _ _ => ⟨u.slots, k b u (hb b n) q⟩, fun b u q n _ => by rw [upd_ne (hx b n)]; exact n, fun b u q _ => ?_,
    fun b xs q => by rw [upd_ne (hm b _ q fun z => z)]; exact q, fun b u xs q => by rw [upd_ne (hm b _ q fun z => z)]; exact q, fun b ps q => ⟨#[], by rw [upd_ne (hm b _ q fun z => z), q]; simp⟩⟩
  by_cases hbe : b = e
  · subst hbe; exact heo
  · exact ⟨u, k b u hbe q⟩
end
noncomputable def trk (h : Heap) (H : Hp) : List Addr := (List.range h.objs.size).filter fun a => (H a).isSome
noncomputable def hidT (h : Heap) (H : Hp) : Heap := PySem.W.hideAll h (trk h H)
theorem hidT_size (h : Heap) (H : Hp) : (hidT h H).objs.size = h.objs.size := PySem.W.hideAll_size _ _
theorem hidT_get {h : Heap} {H : Hp} {b : Addr} {o : Obj} (e : h.get? b = some o) (n : H b = none) : (hidT h H).get? b = some o :=
  PySem.W.hideAll_get _ e fun hm => by
    have q : (H b).isSome = true := (List.mem_filter.mp hm).2
    rw [n] at q; simp at q
theorem of_hidT {h : Heap} {H : Hp} {b : Addr} {o : Obj} (e : (hidT h H).get? b = some o) : h.get? b = some o ∧ H b = none := by
  have e' : h.get? b = some o := PySem.W.of_hideAll (trk h H) e
  refine ⟨e', ?_⟩
  cases q : H b with
  | none => rfl
  | some x =>
    have hm : b ∈ trk h H := List.mem_filter.mpr ⟨List.mem_range.mpr (Heap.lt_size e'), by simp [q]⟩
    have z : (hidT h H).get? b = none := PySem.W.hideAll_none (trk h H) hm
    rw [z] at e; cases e
end L2
namespace L2
open PySem PySem.Spec PyProof.Rows
structure Mod (K : PySem.W.Frag) (mg : Str → Option Value) (base : Heap) : Prop where
  kin : K.In base
  glob : base.Ns mainGlobals mg
  blt : ∃ mb, base.Ns builtinsNs mb ∧ ∀ x : Str, x ≠ "__name__" → mb x = bootBuiltins x
  nolimit : base.NoLimit
set_option genInjectivity false in
structure Cx where
  prog : Program
  w : World
  K : PySem.W.Frag
  mg : Str → Option Value
  base : Heap
  A : Around
  N : List Str
  s₀ : Shared
  H₀ : Hp
  env : Env
  outer : List Env
  stack : List Env
  ex : List Addr
  fn : Str → Bool
  calm : Bool
  pn : List (Addr × Obj)
  xe : Value → Shared → Prop
noncomputable def frs (l : List Env) : List Addr := l.filterMap (·.frame)
noncomputable abbrev Cx.fs (X : Cx) : List Addr := frs X.outer
noncomputable def Vis (sc : Scope) (x : Str) : Prop := sc.names.lookup x = some .local ∨ sc.names.lookup x = some .cell ∨ sc.names.lookup x = some .free
noncomputable def Loc (sc : Scope) (x : Str) : Prop := sc.names.lookup x = some .local ∨ sc.names.lookup x = some .cell
noncomputable def Look (env : Env) (h : Heap) (m : Str → Option Value) (x : Str) (u : Value) : Prop :=
  (env.kindOf x = some .local ∧ m x = some u) ∨ ((env.kindOf x = some .cell ∨ env.kindOf x = some .free) ∧ ∃ c, env.cells.lookup x = some c ∧ h.IsCell c (some u))
set_option genInjectivity false in
structure Cx.Ok (X : Cx) : Prop where
  mod : Mod X.K X.mg X.base
  kind : X.env.scope.kind = .function
  glob : X.env.globals = mainGlobals
  blt : X.env.builtins = builtinsNs
  above : X.s₀.heap.objs.size ≤ X.env.locals
  inj : ∀ x y c, X.env.cells.lookup x = some c → X.env.cells.lookup y = some c → x = y
  has : ∀ x, (X.env.kindOf x = some .cell ∨ X.env.kindOf x = some .free) → ∃ c, X.env.cells.lookup x = some c
  cab : ∀ x c, X.fn x = true → X.env.cells.lookup x = some c → X.s₀.heap.objs.size ≤ c
  hd : X.calm = true → X.A.handled = none
  frames : X.A.frames = some X.stack
  stk : X.stack = X.outer ∨ (X.stack = X.env :: X.outer ∧ X.env.frame = some X.env.locals)
  exf : ∀ b ∈ X.ex, b ≠ X.env.locals ∧ ∀ x c, X.env.cells.lookup x = some c → c ≠ b
  bs : ∀ b o, X.base.get? b = some o → X.s₀.heap.get? b = some o ∧ X.H₀ b = none
  bsz : X.base.objs.size ≤ X.s₀.heap.objs.size
  noex : ∀ b o, X.base.get? b = some o → b ∉ X.ex
  exfs : ∀ b ∈ X.ex, b ∉ X.fs
  funs : X.s₀.heap.FunFrames X.base X.outer
  frf : ∀ b ∈ X.fs, X.H₀ b = none
structure Inv (X : Cx) (pins : List (Addr × Obj)) (σ : List (Option V)) (H : Hp) (s : Shared) : Prop where
  ok : X.Ok
  os : s.os = X.s₀.os
  bare : AllBare s.gens
  base : Un X.fs X.ex X.H₀ H X.s₀.heap s.heap
  loc : ∃ m, s.heap.Ns X.env.locals m ∧ ∀ (i : Nat) (x : Str) (v : V), X.N[i]? = some x → σ[i]? = some (some v) → Vis X.env.scope x → ∃ u, RelV v u ∧ Look X.env s.heap m x u
  cell : ∀ x c, X.env.cells.lookup x = some c → ∃ v, s.heap.IsCell c v
  free : H X.env.locals = none
  freeC : ∀ x c, X.env.cells.lookup x = some c → H c = none
  pin : ∀ p ∈ X.pn ++ pins, s.heap.get? p.1 = some p.2 ∧ H p.1 = none ∧ p.1 ≠ X.env.locals ∧ p.1 ∉ X.fs ∧ ∀ v, p.2.data ≠ .cell v
  hok : HOk X.prog X.w H s.heap
  len : σ.length = X.N.length
section
variable {X : Cx} {pins : List (Addr × Obj)} {σ : List (Option V)} {H H' : Hp} {s : Shared} {h' : Heap}
theorem Cx.Ok.nofr (ok : X.Ok) {b : Addr} {o : Obj} (e : X.base.get? b = some o) : b ∉ X.fs := fun hb => by
  have := (ok.funs.mem hb).1
  rw [e] at this; cases this
theorem Inv.bs (I : Inv X pins σ H s) : ∀ b o, X.base.get? b = some o → s.heap.get? b = some o ∧ H b = none := fun b o e =>
  ⟨I.base.keep b o (I.ok.bs b o e).1 (I.ok.bs b o e).2 (I.ok.nofr e) (I.ok.noex b o e), I.base.free b o (I.ok.bs b o e).1 (I.ok.bs b o e).2 (I.ok.noex b o e)⟩
theorem Inv.bk (I : Inv X pins σ H s) : ∀ b o, X.base.get? b = some o → s.heap.get? b = some o := fun b o e => (I.bs b o e).1
theorem Inv.mod (I : Inv X pins σ H s) : Mod X.K X.mg X.base := I.ok.mod
theorem Inv.kIn (I : Inv X pins σ H s) : X.K.In s.heap := I.ok.mod.kin.keeps I.bk
theorem Inv.fr (I : Inv X pins σ H s) : ∃ m, Fr X.base X.env.locals s.heap m :=
  let ⟨m, hn, _⟩ := I.loc
  ⟨m, hn, I.bk, Nat.le_trans I.ok.bsz I.ok.above⟩
theorem Inv.lt (I : Inv X pins σ H s) : X.env.locals < s.heap.objs.size := let ⟨_, hn, _⟩ := I.loc; hn.lt
theorem Inv.sz (I : Inv X pins σ H s) : X.s₀.heap.objs.size ≤ s.heap.objs.size := Nat.le_trans I.ok.above (Nat.le_of_lt I.lt)
theorem Inv.nofs (I : Inv X pins σ H s) {a : Addr} (h : s.heap.objs.size ≤ a) : a ∉ X.fs := fun hb => by
  obtain ⟨_, o, ho, _⟩ := I.ok.funs.mem hb
  exact absurd (Nat.lt_of_lt_of_le (Heap.lt_size ho) (Nat.le_trans I.sz h)) (Nat.lt_irrefl _)
theorem Inv.cne (I : Inv X pins σ H s) : ∀ x c, X.env.cells.lookup x = some c → c ≠ X.env.locals := fun x c e z => by
  obtain ⟨v, o, ho, hd⟩ := I.cell x c e
  obtain ⟨m, ⟨o', es, ep, ho', hd', _⟩, _⟩ := I.loc
  rw [z, ho'] at ho; cases ho; rw [hd'] at hd; cases hd
theorem Inv.funs (I : Inv X pins σ H s) : s.heap.FunFrames X.base X.outer := by
  have all : ∀ (l : List Env), (∀ b ∈ frs l, b ∈ X.fs) → X.s₀.heap.FunFrames X.base l → s.heap.FunFrames X.base l := by
    intro l
    induction l with
    | nil => intro _ _; trivial
    | cons env r ih =>
      intro hs hl
      obtain ⟨hk, ⟨L, o, hf, hn, ho, hd⟩, hr⟩ := hl
      have hL : L ∈ X.fs := hs L (by unfold frs; rw [List.filterMap_cons, hf]; exact List.mem_cons_self)
      obtain ⟨sl, e⟩ := I.base.slot L o ho (I.ok.frf L hL) hL fun z => I.ok.exfs L z hL
      exact ⟨hk, ⟨L, _, hf, hn, e, hd⟩, ih (fun b hb => hs b (by unfold frs; rw [List.filterMap_cons, hf]; exact List.mem_cons_of_mem _ hb)) hr⟩
  exact all X.outer (fun _ hb => hb) I.ok.funs
theorem Inv.stack (I : Inv X pins σ H s) : s.heap.FunFrames X.base X.stack := by
  rcases I.ok.stk with e | ⟨e, hf⟩
  · rw [e]; exact I.funs
  · rw [e]
    obtain ⟨m, hn, _⟩ := I.loc
    refine .cons (by rw [I.ok.kind]; decide) hf hn ?_ I.funs
    exact Heap.get?_none_of_le (Nat.le_trans I.ok.bsz I.ok.above)
theorem Inv.stkSub (I : Inv X pins σ H s) : ∀ b ∈ frs X.stack, b ∈ X.env.locals :: X.fs := fun b hb => by
  rcases I.ok.stk with e | ⟨e, hf⟩
  · rw [e] at hb; exact List.mem_cons_of_mem _ hb
  · rw [e] at hb
    unfold frs at hb
    rw [List.filterMap_cons, hf] at hb
    exact hb
theorem Inv.stkFree (I : Inv X pins σ H s) : ∀ b ∈ frs X.stack, H b = none := fun b hb => by
  rcases List.mem_cons.mp (I.stkSub b hb) with e | hb
  · rw [e]; exact I.free
  · obtain ⟨_, o, ho, _⟩ := I.ok.funs.mem hb
    exact I.base.free b o ho (I.ok.frf b hb) fun z => I.ok.exfs b z hb
theorem Inv.step {g' : Array GenState} {t' : Nat} {d' : Drawn} {ch : List Addr} (I : Inv X pins σ H s)
    (hch : ∀ b ∈ ch, (b ∈ X.ex ∨ X.s₀.heap.objs.size ≤ b) ∧ b ≠ X.env.locals ∧ (∀ x c, X.env.cells.lookup x = some c → c ≠ b) ∧ ∀ p ∈ X.pn ++ pins, p.1 ≠ b)
    (keep : ∀ b o, b ≠ X.env.locals → b ∉ X.fs → b ∉ ch → s.heap.get? b = some o → H b = none → h'.get? b = some o)
    (slot : ∀ b o, b ≠ X.env.locals → b ∈ X.fs → b ∉ ch → s.heap.get? b = some o → H b = none → ∃ sl, h'.get? b = some { o with slots := sl }) (free : ∀ b o, b ∉ ch → s.heap.get? b = some o → H b = none → H' b = none)
    (there : ∀ b o, b ∉ ch → s.heap.get? b = some o → ∃ o', h'.get? b = some o')
    (tups : ∀ b xs, H b = some (.tup xs) → H' b = some (.tup xs)) (frzs : ∀ b o u, H b = some (.frz o u) → H' b = some (.frz o u)) (tbls : ∀ b ps, H b = some (.tbl ps) → ∃ more, H' b = some (.tbl (ps ++ more)))
    (ns : ∀ m, s.heap.Ns X.env.locals m → h'.Ns X.env.locals m) (hok : HOk X.prog X.w H' h') (hg : AllBare g') :
    Inv X pins σ H' { s with heap := h', gens := g', drawn := d', toks := t' } := by
  have neL : ∀ b o, X.s₀.heap.get? b = some o → b ≠ X.env.locals := fun b o e => Nat.ne_of_lt (Nat.lt_of_lt_of_le (Heap.lt_size e) I.ok.above)
  have neC : ∀ b o, X.s₀.heap.get? b = some o → b ∉ X.ex → b ∉ ch := fun b o e hx hb => by
    rcases (hch b hb).1 with z | z
    · exact hx z
    · exact absurd (Nat.lt_of_lt_of_le (Heap.lt_size e) z) (Nat.lt_irrefl _)
  have cellK : ∀ x c, X.env.cells.lookup x = some c → ∀ v, s.heap.IsCell c v → h'.IsCell c v := fun x c e v ⟨o, ho, hd⟩ => by
    have nch : c ∉ ch := fun z => (hch c z).2.2.1 x c e rfl
    by_cases hc : c ∈ X.fs
    · obtain ⟨sl, q⟩ := slot c o (I.cne x c e) hc nch ho (I.freeC x c e)
      exact ⟨_, q, hd⟩
    · exact ⟨o, keep c o (I.cne x c e) hc nch ho (I.freeC x c e), hd⟩
  refine ⟨I.ok, I.os, hg, ⟨fun b o e n hb hx => ?_, fun b o e n hb hx => ?_, fun b o e n hx => ?_, fun b o e hx => ?_, fun b xs e => tups b xs (I.base.tups b xs e), fun b o xs e => frzs b o xs (I.base.frzs b o xs e), fun b ps e => ?_⟩, ?_, fun x c e => ?_, ?_, fun x c e => ?_, fun p hp => ?_, hok, I.len⟩
  · exact keep b o (neL b o e) hb (neC b o e hx) (I.base.keep b o e n hb hx) (I.base.free b o e n hx)
  · obtain ⟨sl, e1⟩ := I.base.slot b o e n hb hx
    obtain ⟨sl', e2⟩ := slot b _ (neL b o e) hb (neC b o e hx) e1 (I.base.free b o e n hx)
    exact ⟨sl', e2⟩
  · obtain ⟨o', e1⟩ := I.base.there b o e hx
    exact free b o' (neC b o e hx) e1 (I.base.free b o e n hx)
  · obtain ⟨o', e1⟩ := I.base.there b o e hx
    exact there b o' (neC b o e hx) e1
  · obtain ⟨m1, e1⟩ := I.base.tbls b ps e
    obtain ⟨m2, e2⟩ := tbls b _ e1
    exact ⟨m1 ++ m2, by rw [e2, Array.append_assoc]⟩
  · obtain ⟨m, hn, hl⟩ := I.loc
    refine ⟨m, ns m hn, fun i x v e1 e2 e3 => ?_⟩
    obtain ⟨u, r, l⟩ := hl i x v e1 e2 e3
    refine ⟨u, r, ?_⟩
    rcases l with l | ⟨k, c, e, z⟩
    · exact .inl l
    · exact .inr ⟨k, c, e, cellK x c e _ z⟩
  · obtain ⟨v, z⟩ := I.cell x c e
    exact ⟨v, cellK x c e v z⟩
  · obtain ⟨m, ⟨o, _, _, ho, _⟩, _⟩ := I.loc
    exact free _ o (fun z => (hch _ z).2.1 rfl) ho I.free
  · obtain ⟨v, o, ho, hd⟩ := I.cell x c e
    exact free c o (fun z => (hch c z).2.2.1 x c e rfl) ho (I.freeC x c e)
  · obtain ⟨e, n, ne, nf, d⟩ := I.pin p hp
    have nch : p.1 ∉ ch := fun z => (hch p.1 z).2.2.2 p hp rfl
    exact ⟨keep p.1 p.2 ne nf nch e n, free p.1 p.2 nch e n, ne, nf, d⟩
theorem Inv.un {t' : Nat} (I : Inv X pins σ H s) (u : Un X.fs [] H H' s.heap h') (hok : HOk X.prog X.w H' h') : Inv X pins σ H' { s with heap := h', toks := t' } := by
  obtain ⟨m, ⟨o, es, ep, ho, r⟩, _⟩ := id I.loc
  obtain ⟨sl, hL⟩ := u.any ho I.free (by simp)
  exact I.step (g' := s.gens) (d' := s.drawn) (ch := []) (fun _ z => nomatch z) (fun b o _ hb _ e n => u.keep b o e n hb (by simp)) (fun b o _ hb _ e n => u.slot b o e n hb (by simp)) (fun b o _ e n => u.free b o e n (by simp)) (fun b o _ e => u.there b o e (by simp)) u.tups u.frzs u.tbls (fun m' hm => by
    obtain ⟨o', es', ep', ho', r'⟩ := hm
    rw [ho] at ho'; cases ho'
    exact ⟨_, es', ep', hL, r'⟩) hok I.bare
theorem Inv.call {g' : Array GenState} {t' : Nat} {d' : Drawn} {ch : List Addr} (I : Inv X pins σ H s) (u : Un (frs X.stack) ch H H' s.heap h') (hok : HOk X.prog X.w H' h') (hg : AllBare g')
    (hch : ∀ b ∈ ch, (b ∈ X.ex ∨ X.s₀.heap.objs.size ≤ b) ∧ b ≠ X.env.locals ∧ (∀ x c, X.env.cells.lookup x = some c → c ≠ b) ∧ ∀ p ∈ X.pn ++ pins, p.1 ≠ b) :
    Inv X pins σ H' { s with heap := h', gens := g', drawn := d', toks := t' } := by
  obtain ⟨m, ⟨o, es, ep, ho, r⟩, _⟩ := id I.loc
  obtain ⟨sl, hL⟩ := u.any ho I.free fun z => (hch _ z).2.1 rfl
  exact I.step (ch := ch) hch (fun b o hL hb hc e n => u.keep b o e n (fun z => (List.mem_cons.mp (I.stkSub b z)).elim hL hb) hc) (fun b o _ _ hc e n => u.any e n hc) (fun b o hc e n => u.free b o e n hc) (fun b o hc e => u.there b o e hc) u.tups u.frzs u.tbls (fun m' hm => by
    obtain ⟨o', es', ep', ho', r'⟩ := hm
    rw [ho] at ho'; cases ho'
    exact ⟨_, es', ep', hL, r'⟩) hok hg
theorem Inv.turned {t' : Nat} {it : Addr} (I : Inv X pins σ H s) (k : ∀ b o, b ≠ it → s.heap.get? b = some o → h'.get? b = some o) (hn : H it = none) (hL : it ≠ X.env.locals)
    (h1 : it ∈ X.ex ∨ X.s₀.heap.objs.size ≤ it) (h2 : ∀ x c, X.env.cells.lookup x = some c → c ≠ it) (h3 : ∀ p ∈ X.pn ++ pins, p.1 ≠ it) : Inv X pins σ H { s with heap := h', toks := t' } := by
  have nit : ∀ b u, H b = some u → b ≠ it := fun b u e z => by rw [z, hn] at e; cases e
  refine I.step (g' := s.gens) (d' := s.drawn) (ch := [it]) (fun b hb => ?_) (fun b o _ _ hc e _ => k b o (fun z => hc (by simp [z])) e) (fun b o _ _ hc e _ => ⟨o.slots, k b o (fun z => hc (by simp [z])) e⟩) (fun _ _ _ _ n => n)
    (fun b o hc e => ⟨o, k b o (fun z => hc (by simp [z])) e⟩) (fun _ _ e => e) (fun _ _ _ e => e) (fun b ps e => ⟨#[], by rw [e]; simp⟩) (fun m hm => ?_) (fun b u e => ?_) I.bare
  · have e : b = it := by simpa using hb
    subst e
    exact ⟨h1, hL, h2, h3⟩
  · obtain ⟨o, es, ep, ho, r⟩ := hm
    exact ⟨o, es, ep, k _ o (Ne.symm hL) ho, r⟩
  · refine (I.hok b u e).stay (fun c v hc q => k c v ?_ q) (fun _ q => q) fun _ _ q => q
    rcases hc with z | z
    · rw [z]; exact nit b u e
    · exact nit c _ z
theorem Inv.tok (I : Inv X pins σ H s) (t : Nat) : Inv X pins σ H { s with toks := t } := I.un (h' := s.heap) (t' := t) Un.refl I.hok
theorem Inv.kept {t' : Nat} (I : Inv X pins σ H s) (k : ∀ b u, s.heap.get? b = some u → h'.get? b = some u) : Inv X pins σ H { s with heap := h', toks := t' } := I.un (Un.kept k) (I.hok.kept k)
theorem Inv.laid {a : Addr} {o : HO} {t' : Nat} (I : Inv X pins σ H s) (k : ∀ b u, s.heap.get? b = some u → h'.get? b = some u) (hp : s.heap.objs.size ≤ a) (new : ObjOk X.prog X.w (upd H a o) h' a o) :
    Inv X pins σ (upd H a o) { s with heap := h', toks := t' } := I.un (Un.laid k hp (I.hok.fresh hp)) (I.hok.laid k hp new)
theorem Inv.write {x e : Addr} {o : HO} {t' : Nat} (I : Inv X pins σ H s) (mu : Mut (H x)) (he : e = x ∨ H e = some (.own x)) (k : ∀ b u, b ≠ e → s.heap.get? b = some u → h'.get? b = some u) (heo : ∃ u, h'.get? e = some u)
    (new : ObjOk X.prog X.w (upd H x o) h' x o) : Inv X pins σ (upd H x o) { s with heap := h', toks := t' } := I.un (Un.write mu he k heo) (I.hok.write mu he k heo new)
theorem Inv.weak {σ' : List (Option V)} (I : Inv X pins σ H s) (hl : σ'.length = σ.length) (w : ∀ (i : Nat) v, σ'[i]? = some (some v) → σ[i]? = some (some v)) : Inv X pins σ' H s :=
  ⟨I.ok, I.os, I.bare, I.base, let ⟨m, hn, hl'⟩ := I.loc; ⟨m, hn, fun i x v e1 e2 e3 => hl' i x v e1 (w i v e2) e3⟩, I.cell, I.free, I.freeC, I.pin, I.hok, hl.trans I.len⟩
theorem Inv.pins_of {pins' : List (Addr × Obj)} (I : Inv X pins σ H s) (h : ∀ p ∈ pins', s.heap.get? p.1 = some p.2 ∧ H p.1 = none ∧ p.1 ≠ X.env.locals ∧ p.1 ∉ X.fs ∧ ∀ v, p.2.data ≠ .cell v) : Inv X pins' σ H s :=
  ⟨I.ok, I.os, I.bare, I.base, I.loc, I.cell, I.free, I.freeC, fun p hp => (List.mem_append.mp hp).elim (fun z => I.pin p (List.mem_append_left _ z)) (h p), I.hok, I.len⟩
theorem nodup_ix {N : List Str} (hN : N.Nodup) {i j : Nat} {x : Str} (a : N[i]? = some x) (b : N[j]? = some x) : i = j := by
  obtain ⟨h1, e1⟩ := List.getElem?_eq_some_iff.mp a
  obtain ⟨h2, e2⟩ := List.getElem?_eq_some_iff.mp b
  exact (List.getElem_inj hN).mp (e1.trans e2.symm)
theorem store_ok2 {M : Model} {A : Around} {E : Value → Shared → Prop} {i : Nat} {x : Str} {v : V} {u : Value} {Q : Unit → Shared → Prop} (I : Inv X pins σ H s) (hN : X.N.Nodup) (hi : X.N[i]? = some x) (hx : Loc X.env.scope x) (r : RelV v u)
    (h : ∀ s', Inv X pins (σ.set i (some v)) H s' → (∃ a, Heap.SameBut a s.heap s'.heap ∧ (a = X.env.locals ∨ X.env.cells.lookup x = some a)) → Q () s') (hf : X.fn x = true ∨ X.env.scope.names.lookup x = some .local := by first | exact .inl rfl | exact .inr rfl | assumption) : wpAny M A (storeName X.env x u) Q E s := by
  obtain ⟨m, hn, hl⟩ := id I.loc
  have hcls : (X.env.scope.kind == .class || (X.env.scope.kind == .module && X.env.locals != X.env.globals)) = false := by rw [I.ok.kind]; rfl
  have hiσ : i < σ.length := by rw [I.len]; exact (List.getElem?_eq_some_iff.mp hi).1
  have cne := I.cne
  have tracked : ∀ {a : Addr} {h' : Heap}, (∃ o, s.heap.get? a = some o ∧ H a = none) → Heap.SameBut a s.heap h' → HOk X.prog X.w H h' := fun {a h'} ha hs b ob e => by
    obtain ⟨_, _, hfree⟩ := ha
    refine (I.hok b ob e).stay (fun c w' hc q => (hs.2 c ?_).trans q) (fun _ q => q) fun _ _ q => q
    rintro rfl
    rcases hc with rfl | hc
    · rw [hfree] at e; cases e
    · rw [hfree] at hc; cases hc
  rcases hx with hk | hk
  · refine wpAny_storeName_local hk hn (fun h' hn' hs => ?_) hcls
    obtain ⟨oL, _, _, hoL, _⟩ := id hn
    refine h _ ⟨I.ok, I.os, I.bare, ⟨fun b o e n hb hx => ?_, fun b o e n hb hx => ?_, I.base.free, fun b o e hx => ?_, I.base.tups, I.base.frzs, I.base.tbls⟩, ⟨_, hn', fun j y v' e1 e2 e3 => ?_⟩, fun y c e => ?_, I.free, I.freeC, fun p hp => ?_, tracked ⟨oL, hoL, I.free⟩ hs, by simpa using I.len⟩ ⟨_, hs, .inl rfl⟩
    · exact (hs.2 b (Nat.ne_of_lt (Nat.lt_of_lt_of_le (Heap.lt_size e) I.ok.above))).trans (I.base.keep b o e n hb hx)
    · obtain ⟨sl, e1⟩ := I.base.slot b o e n hb hx
      exact ⟨sl, (hs.2 b (Nat.ne_of_lt (Nat.lt_of_lt_of_le (Heap.lt_size e) I.ok.above))).trans e1⟩
    · obtain ⟨o', e1⟩ := I.base.there b o e hx
      exact ⟨o', (hs.2 b (Nat.ne_of_lt (Nat.lt_of_lt_of_le (Heap.lt_size e) I.ok.above))).trans e1⟩
    · by_cases hj : j = i
      · subst hj
        rw [hi] at e1; cases e1
        rw [List.getElem?_set_self hiσ] at e2
        cases e2
        exact ⟨u, r, .inl ⟨hk, by simp⟩⟩
      · rw [List.getElem?_set_ne (Ne.symm hj)] at e2
        obtain ⟨u', r', q⟩ := hl j y v' e1 e2 e3
        refine ⟨u', r', ?_⟩
        rcases q with ⟨k, e⟩ | ⟨k, c, e, z⟩
        · refine .inl ⟨k, ?_⟩
          have : y ≠ x := fun e => hj (nodup_ix hN e1 (e ▸ hi))
          simp [this, e]
        · exact .inr ⟨k, c, e, z.sameBut hs (cne y c e)⟩
    · obtain ⟨w', z⟩ := I.cell y c e
      exact ⟨w', z.sameBut hs (cne y c e)⟩
    · obtain ⟨e, n, ne, nf, d⟩ := I.pin p hp
      exact ⟨(hs.2 p.1 ne).trans e, n, ne, nf, d⟩
  · have hfn : X.fn x = true := by
      rcases hf with z | z
      · exact z
      · rw [z] at hk; cases hk
    obtain ⟨c, hc⟩ := I.ok.has x (.inl hk)
    obtain ⟨w', z⟩ := I.cell x c hc
    refine wpAny_storeName_cell I.ok.kind hk hc z (fun h' hc' hs => ?_)
    obtain ⟨oc, hoc, hocd⟩ := id z
    refine h { s with heap := h' } ⟨I.ok, I.os, I.bare, ⟨fun b o e n hb hx => ?_, fun b o e n hb hx => ?_, I.base.free, fun b o e hx => ?_, I.base.tups, I.base.frzs, I.base.tbls⟩, ⟨m, hn.sameBut hs (Ne.symm (cne x c hc)), fun j y v' e1 e2 e3 => ?_⟩, fun y c' e => ?_, I.free, I.freeC, fun p hp => ?_, tracked ⟨oc, hoc, I.freeC x c hc⟩ hs, by simpa using I.len⟩ ⟨c, hs, .inr hc⟩
    · exact (hs.2 b (Nat.ne_of_lt (Nat.lt_of_lt_of_le (Heap.lt_size e) (I.ok.cab x c hfn hc)))).trans (I.base.keep b o e n hb hx)
    · obtain ⟨sl, e1⟩ := I.base.slot b o e n hb hx
      exact ⟨sl, (hs.2 b (Nat.ne_of_lt (Nat.lt_of_lt_of_le (Heap.lt_size e) (I.ok.cab x c hfn hc)))).trans e1⟩
    · obtain ⟨o', e1⟩ := I.base.there b o e hx
      exact ⟨o', (hs.2 b (Nat.ne_of_lt (Nat.lt_of_lt_of_le (Heap.lt_size e) (I.ok.cab x c hfn hc)))).trans e1⟩
    · by_cases hj : j = i
      · subst hj
        rw [hi] at e1; cases e1
        rw [List.getElem?_set_self hiσ] at e2
        cases e2
        exact ⟨u, r, .inr ⟨.inl hk, c, hc, hc'⟩⟩
      · rw [List.getElem?_set_ne (Ne.symm hj)] at e2
        obtain ⟨u', r', q⟩ := hl j y v' e1 e2 e3
        refine ⟨u', r', ?_⟩
        rcases q with q | ⟨k, c', e, z'⟩
        · exact .inl q
        · refine .inr ⟨k, c', e, z'.sameBut hs ?_⟩
          rintro rfl
          exact hj (nodup_ix hN e1 (I.ok.inj _ _ _ e hc ▸ hi))
    · by_cases hcc : c' = c
      · subst hcc; exact ⟨_, hc'⟩
      · obtain ⟨w2, z2⟩ := I.cell y c' e
        exact ⟨w2, z2.sameBut hs hcc⟩
    · obtain ⟨e, n, ne, nf, d⟩ := I.pin p hp
      refine ⟨(hs.2 p.1 ?_).trans e, n, ne, nf, d⟩
      intro q
      rw [q, hoc] at e
      have q' : oc = p.2 := Option.some.inj e
      exact d w' (by rw [← q']; exact hocd)
theorem store_ok {M : Model} {A : Around} {E : Value → Shared → Prop} {i : Nat} {x : Str} {v : V} {u : Value} {Q : Unit → Shared → Prop} (I : Inv X pins σ H s) (hN : X.N.Nodup) (hi : X.N[i]? = some x) (hx : Loc X.env.scope x) (r : RelV v u)
    (h : ∀ s', Inv X pins (σ.set i (some v)) H s' → Q () s') (hf : X.fn x = true ∨ X.env.scope.names.lookup x = some .local := by first | exact .inl rfl | exact .inr rfl | assumption) : wpAny M A (storeName X.env x u) Q E s :=
  store_ok2 I hN hi hx r (fun s' I' _ => h s' I') hf
theorem Inv.call' {s' : Shared} {ch : List Addr} (I : Inv X pins σ H s) (ho : s'.os = s.os) (u : Un (frs X.stack) ch H H' s.heap s'.heap) (hok : HOk X.prog X.w H' s'.heap) (hg : AllBare s'.gens)
    (hch : ∀ b ∈ ch, (b ∈ X.ex ∨ X.s₀.heap.objs.size ≤ b) ∧ b ≠ X.env.locals ∧ (∀ x c, X.env.cells.lookup x = some c → c ≠ b) ∧ ∀ p ∈ X.pn ++ pins, p.1 ≠ b) : Inv X pins σ H' s' := by
  obtain ⟨h', g', d', t', o'⟩ := s'
  have e : o' = s.os := ho
  subst e
  exact I.call (g' := g') (t' := t') (d' := d') u hok hg hch
end
noncomputable abbrev XK := Value → Option Addr → Hp → Prop
noncomputable abbrev St := List (Option V)
noncomputable abbrev VK := V → Hp → Prop
noncomputable abbrev TE := St → Hp → VK → Prop
noncomputable abbrev TT := St → Hp → (Bool → Hp → Prop) → Prop
noncomputable abbrev TA := St → Hp → (List V → Hp → Prop) → Prop
structure Ends where
  nx : St → Hp → Prop
  rt : VK
  bk : St → Hp → Prop := fun _ _ => False
  ct : St → Hp → Prop := fun _ _ => False
noncomputable abbrev TS := Ends → St → Hp → Prop
noncomputable def EP (X : Cx) (pins : List (Addr × Obj)) (σ : St) (Q : VK) (u : Value) (s' : Shared) : Prop := ∃ v H', Inv X pins σ H' s' ∧ RelV v u ∧ Q v H'
noncomputable def TP (X : Cx) (pins : List (Addr × Obj)) (σ : St) (Q : Bool → Hp → Prop) (b : Bool) (s' : Shared) : Prop := ∃ H', Inv X pins σ H' s' ∧ Q b H'
noncomputable def AP (X : Cx) (pins : List (Addr × Obj)) (σ : St) (Q : List V → Hp → Prop) (us : List Value) (s' : Shared) : Prop := ∃ vs H', Inv X pins σ H' s' ∧ Vals vs us ∧ Q vs H'
noncomputable def SP (X : Cx) (pins : List (Addr × Obj)) (D : Ends) (f : Flow) (s' : Shared) : Prop :=
  match f with
  | .next => ∃ σ' H', Inv X pins σ' H' s' ∧ D.nx σ' H'
  | .brk => ∃ σ' H', Inv X pins σ' H' s' ∧ D.bk σ' H'
  | .cont => ∃ σ' H', Inv X pins σ' H' s' ∧ D.ct σ' H'
  | .ret u => ∃ v σ' H', Inv X pins σ' H' s' ∧ RelV v u ∧ D.rt v H'
noncomputable def PE (X : Cx) (e : Expr) (t : TE) : Prop :=
  ∀ (pins : List (Addr × Obj)) (s : Shared) (σ : St) (H : Hp) (Q : VK), Inv X pins σ H s → t σ H Q → wpAny (model X.prog X.w) X.A (eval e X.env) (EP X pins σ Q) X.xe s
noncomputable def PT (X : Cx) (e : Expr) (t : TT) : Prop :=
  ∀ (pins : List (Addr × Obj)) (s : Shared) (σ : St) (H : Hp) (Q : Bool → Hp → Prop), Inv X pins σ H s → t σ H Q → wpAny (model X.prog X.w) X.A (isTrue e X.env (eval e X.env)) (TP X pins σ Q) X.xe s
noncomputable def PW (X : Cx) (e : Expr) (t : TT) : Prop :=
  ∀ (whole : Sem Value) (pins : List (Addr × Obj)) (s : Shared) (σ : St) (H : Hp) (Q : Bool → Hp → Prop), Inv X pins σ H s → t σ H Q → wpAny (model X.prog X.w) X.A (isTrue e X.env whole) (TP X pins σ Q) X.xe s
theorem PW.pt {X : Cx} {e : Expr} {t : TT} (h : PW X e t) : PT X e t := h _
noncomputable def PA (X : Cx) (es : List Expr) (t : TA) : Prop :=
  ∀ (pos : Pos) (pins : List (Addr × Obj)) (s : Shared) (σ : St) (H : Hp) (Q : List V → Hp → Prop), Inv X pins σ H s → t σ H Q → wpAny (model X.prog X.w) X.A (spliced (backTo pos (starEach es X.env))) (AP X pins σ Q) X.xe s
noncomputable def PS (X : Cx) (st : Stmt) (t : TS) : Prop :=
  ∀ (pins : List (Addr × Obj)) (s : Shared) (σ : St) (H : Hp) (D : Ends), Inv X pins σ H s → t D σ H → wpAny (model X.prog X.w) X.A (exec st X.env) (SP X pins D) X.xe s
noncomputable def PSs (X : Cx) (st : List Stmt) (t : TS) : Prop :=
  ∀ (pins : List (Addr × Obj)) (s : Shared) (σ : St) (H : Hp) (D : Ends), Inv X pins σ H s → t D σ H → wpAny (model X.prog X.w) X.A (execs st X.env) (SP X pins D) X.xe s
theorem thn {α : Type} {t : Sem α} {Q Q' : α → Shared → Prop} {M : Model} {A : Around} {E : Value → Shared → Prop} {s : Shared} (h : wpAny M A t Q E s) (hQ : ∀ a s, Q a s → Q' a s) : wpAny M A t Q' E s := wpAny_mono h hQ fun _ _ x => x
end L2
namespace L2
open PySem PySem.Spec PyProof.Rows
section
variable {X : Cx}
inductive tVar (i : Nat) (σ : St) (H : Hp) (Q : VK) : Prop
  | mk (v : V) (e : σ[i]? = some (some v)) (q : Q v H) : tVar i σ H Q
noncomputable def tC (v : V) : TE := fun _ H Q => Q v H
theorem pe_var {i : Nat} {x : Str} {pos : Pos} (hN : X.N[i]? = some x) (hv : Vis X.env.scope x) (hd : (x == ("__debug__" : Str)) = false := by decide) (hcd : (x == ("__classdict__" : Str)) = false := by decide) : PE X (.Name x pos) (tVar i) := by
  intro pins s σ H Q I h
  obtain ⟨v, e, h⟩ := h
  obtain ⟨m, hn, hl⟩ := I.loc
  obtain ⟨u, r, l⟩ := hl i x v hN e hv
  have fin : EP X pins σ Q u s := ⟨v, H, I, r, h⟩
  rcases l with ⟨hk, hm⟩ | ⟨hk, c, hc, hcell⟩
  · exact wpAny_Name (wpAny_loadName_local I.ok.kind hk hn hm fin) hd
  · rcases hk with hk | hk
    · exact wpAny_Name (wpAny_loadName_cell I.ok.kind hk hc hcell fin) hd
    · exact wpAny_Name (wpAny_loadName_free I.ok.kind hk hc hcell fin hcd) hd
theorem pe_int {i j pos} : PE X (.Constant (.int i) j pos) (tC (.int i)) := fun _ _ _ H _ I h => wpAny_Constant_int ⟨.int i, H, I.tok _, ⟨_, rfl⟩, h⟩
theorem pe_bl {b j pos} : PE X (.Constant (.bool b) j pos) (tC (.bl b)) := fun _ _ _ H _ I h => Constant_bool ⟨.bl b, H, I, rfl, h⟩
theorem pe_non {j pos} : PE X (.Constant .none j pos) (tC .non) := fun _ _ _ H _ I h => Constant_none ⟨.non, H, I, rfl, h⟩
theorem pe_str {x j pos} : PE X (.Constant (.str x) j pos) (tC (.str x)) := fun _ _ _ H _ I h => Calls.Constant_str ⟨.str x, H, I.tok _, ⟨_, rfl⟩, h⟩
noncomputable def Gl (X : Cx) (x : Str) : Prop := X.env.kindOf x = some .globalImplicit
theorem ld_glob {E : Value → Shared → Prop} {pins : List (Addr × Obj)} {s : Shared} {σ : St} {H : Hp} {x : Str} {u : Value} {pos : Pos} {Q : Value → Shared → Prop} (I : Inv X pins σ H s) (hg : Gl X x) (hm : X.mg x = some u) (h : Q u s)
    (hd : (x == ("__debug__" : Str)) = false := by decide) : wpAny (model X.prog X.w) X.A (eval (.Name x pos) X.env) Q E s :=
  Calls.Name_function_global I.ok.kind hg (Calls.loadGlobal_global (by rw [I.ok.glob]; exact I.mod.glob.keeps I.bk) hm h) hd
theorem ld_blt {E : Value → Shared → Prop} {pins : List (Addr × Obj)} {s : Shared} {σ : St} {H : Hp} {x : Str} {u : Value} {pos : Pos} {Q : Value → Shared → Prop} (I : Inv X pins σ H s) (hg : Gl X x) (hm : X.mg x = none) (hv : bootBuiltins x = some u) (h : Q u s)
    (hn : x ≠ "__name__" := by decide) (hd : (x == ("__debug__" : Str)) = false := by decide) : wpAny (model X.prog X.w) X.A (eval (.Name x pos) X.env) Q E s := by
  obtain ⟨mb, h1, h2⟩ := I.mod.blt
  exact Calls.Name_function_global I.ok.kind hg (Calls.loadGlobal_builtin (by rw [I.ok.glob]; exact I.mod.glob.keeps I.bk) hm (by rw [I.ok.blt]; exact h1.keeps I.bk) ((h2 x hn).trans hv) h) hd
theorem pe_bltn {x : Str} {v : V} {u : Value} {pos : Pos} (hg : Gl X x) (hm : X.mg x = none) (hv : bootBuiltins x = some u) (r : RelV v u) (hn : x ≠ "__name__" := by decide) (hd : (x == ("__debug__" : Str)) = false := by decide) : PE X (.Name x pos) (tC v) :=
  fun _ _ _ H _ I h => ld_blt I hg hm hv ⟨v, H, I, r, h⟩ hn hd
variable {a b : Expr} {ta tb : TE} {pos : Pos}
inductive isBl (Q : Bool → Hp → Prop) (x : V) (H : Hp) : Prop
  | mk (c : Bool) (e : x = .bl c) (q : Q c H) : isBl Q x H
noncomputable def tB (t : TE) : TT := fun σ H Q => t σ H (isBl Q)
theorem pt_val {e : Expr} {t : TE} (h : PE X e t) (he : ∀ whole, isTrue e X.env whole = (do let v ← whole; standAt e.pos; holding [v] (truthy v)) := by intro _; rfl) : PT X e (tB t) := by
  intro pins s σ H Q I hw
  refine isTrue_plain (thn (h pins s σ H _ I hw) fun v s1 ⟨x, H1, I1, r1, q1⟩ => ?_) (he _)
  obtain ⟨d, rfl, q⟩ := q1
  cases r1
  exact wpAny_truthy_bool ⟨H1, I1, q⟩
variable {tA tB' : TT} {rest : List Expr}
noncomputable def tAnd (t u : TT) : TT := fun σ H Q => t σ H fun c H1 => if c = true then u σ H1 Q else Q false H1
noncomputable def tOr (t u : TT) : TT := fun σ H Q => t σ H fun c H1 => if c = true then Q true H1 else u σ H1 Q
noncomputable def tNot (t : TT) : TT := fun σ H Q => t σ H fun c H1 => Q (!c) H1
theorem pw_and1 (ha : PT X a tA) : PW X (.BoolOp .And [a] pos) tA := by
  intro wh pins s σ H Q I h
  refine isTrue_and (thn (ha pins s σ H Q I h) fun c s1 e => ?_)
  cases c with
  | true => exact isTrue_and_nil e
  | false => exact e
theorem pw_or1 (ha : PT X a tA) : PW X (.BoolOp .Or [a] pos) tA := by
  intro wh pins s σ H Q I h
  refine isTrue_or (thn (ha pins s σ H Q I h) fun c s1 e => ?_)
  cases c with
  | false => exact isTrue_or_nil e
  | true => exact e
theorem pw_and (ha : PT X a tA) (hb : PW X (.BoolOp .And (b :: rest) pos) tB') : PW X (.BoolOp .And (a :: b :: rest) pos) (tAnd tA tB') := by
  intro wh pins s σ H Q I h
  refine isTrue_and (thn (ha pins s σ H _ I h) fun c s1 ⟨H1, I1, q1⟩ => ?_)
  cases c with
  | true => exact hb wh pins s1 σ H1 Q I1 q1
  | false => exact ⟨H1, I1, q1⟩
theorem pw_or (ha : PT X a tA) (hb : PW X (.BoolOp .Or (b :: rest) pos) tB') : PW X (.BoolOp .Or (a :: b :: rest) pos) (tOr tA tB') := by
  intro wh pins s σ H Q I h
  refine isTrue_or (thn (ha pins s σ H _ I h) fun c s1 ⟨H1, I1, q1⟩ => ?_)
  cases c with
  | true => exact ⟨H1, I1, q1⟩
  | false => exact hb wh pins s1 σ H1 Q I1 q1
theorem pt_not (ha : PT X a tA) : PT X (.UnaryOp .Not a pos) (tNot tA) := by
  intro pins s σ H Q I h
  exact isTrue_not (ha pins s σ H (fun c H1 => Q (!c) H1) I h)
noncomputable def tAndV (ta tb : TE) : TE := fun σ H Q => ta σ H fun x H1 => ∃ c, x = .bl c ∧ if c = true then tb σ H1 Q else Q (.bl false) H1
noncomputable def tNotV (ta : TE) : TE := fun σ H Q => ta σ H fun x H1 => ∃ c, x = .bl c ∧ Q (.bl (!c)) H1
theorem pe_one {op} {t : TE} (h : PE X a t) : PE X (.BoolOp op [a] pos) t := fun pins s σ H Q I hw => BoolOp_one (h pins s σ H Q I hw)
theorem pe_and (ha : PE X a ta) (hb : PE X (.BoolOp .And (b :: rest) pos) tb) : PE X (.BoolOp .And (a :: b :: rest) pos) (tAndV ta tb) := by
  intro pins s σ H Q I h
  refine BoolOp_and (thn (ha pins s σ H _ I h) fun v s1 ⟨x, H1, I1, r1, q1⟩ => ?_)
  obtain ⟨c, rfl, q1⟩ := q1
  cases r1
  refine wpAny_truthy_bool ?_
  cases c with
  | true => exact hb pins s1 σ H1 Q I1 q1
  | false => exact ⟨.bl false, H1, I1, rfl, q1⟩
theorem pe_not (ha : PE X a ta) : PE X (.UnaryOp .Not a pos) (tNotV ta) := by
  intro pins s σ H Q I h
  refine UnaryOp_ (thn (ha pins s σ H _ I h) fun v s1 ⟨x, H1, I1, r1, q1⟩ => ?_)
  obtain ⟨c, rfl, q1⟩ := q1
  cases r1
  exact not_of (wpAny_truthy_bool ⟨.bl (!c), H1, I1, rfl, q1⟩)
noncomputable def tIf (t : TT) (ta tb : TE) : TE := fun σ H Q => t σ H fun c H1 => if c = true then ta σ H1 Q else tb σ H1 Q
theorem pe_ifExp {c : Expr} (hc : PT X c tA) (ha : PE X a ta) (hb : PE X b tb) : PE X (.IfExp c a b pos) (tIf tA ta tb) := by
  intro pins s σ H Q I h
  refine wpAny_IfExp (thn (hc pins s σ H _ I h) fun d s1 ⟨H1, I1, q1⟩ => ?_)
  cases d with
  | true => exact ha pins s1 σ H1 Q I1 q1
  | false => exact hb pins s1 σ H1 Q I1 q1
end
end L2
namespace L2
open PySem PySem.Spec PyProof.Rows
noncomputable def SqL (K : PySem.W.Frag) (H : Hp) (a : Addr) (xs : List V) : Prop :=
  Rd H a (.lst xs) ∨
    ∃ (o : Obj) (its : Array Value) (n : Nat), K.lookup a = some o ∧ o.cls = .type "list" ∧ o.dict = none ∧ o.data = .seq its n ∧ its.size ≤ sizeLine ∧ Vals xs its.toList
noncomputable def SqT (K : PySem.W.Frag) (H : Hp) (a : Addr) (xs : List V) : Prop :=
  Rd H a (.tup xs) ∨
    ∃ (o : Obj) (its : Array Value) (n : Nat), K.lookup a = some o ∧ o.cls = .type "tuple" ∧ o.data = .seq its n ∧ its.size ≤ sizeLine ∧ Vals xs its.toList
noncomputable def absV : Value → Option V
  | .none => some .non
  | .bool b => some (.bl b)
  | .int i _ => some (.int i)
  | .str x _ => some (.str x)
  | .bytes b _ => some (.byt b)
  | .float b _ => some (.flt b)
  | .ref a => some (.ref a)
  | .type n => some (.ty n)
  | _ => none
theorem RelV.abs {x : V} {u : Value} (r : RelV x u) : absV u = some x := by
  cases x with
  | non => cases r; rfl
  | bl _ => cases r; rfl
  | int _ => obtain ⟨t, rfl⟩ := r; rfl
  | str _ => obtain ⟨t, rfl⟩ := r; rfl
  | byt _ => obtain ⟨t, rfl⟩ := r; rfl
  | flt _ => obtain ⟨t, rfl⟩ := r; rfl
  | ref _ => cases r; rfl
  | ty _ => cases r; rfl
theorem RelV.inj {x y : V} {u : Value} (r : RelV x u) (q : RelV y u) : x = y := Option.some.inj (r.abs.symm.trans q.abs)
theorem Vals.inj {xs ys : List V} {us : List Value} (h : Vals xs us) (h' : Vals ys us) : xs = ys := by
  induction h generalizing ys with
  | nil => cases h'; rfl
  | cons r t ih => cases h' with | cons r' t' => rw [r.inj r', ih t']
section
variable {X : Cx} {pins : List (Addr × Obj)} {σ : St} {H : Hp} {s : Shared} {a : Addr} {xs ys : List V}
theorem SqL.of {K : PySem.W.Frag} (h : H a = some (.lst xs)) : SqL K H a xs := .inl (.inl h)
theorem SqT.of {K : PySem.W.Frag} (h : H a = some (.tup xs)) : SqT K H a xs := .inl (.inl h)
theorem Inv.list (I : Inv X pins σ H s) (h : SqL X.K H a xs) : ∃ its : List Value, Vals xs its ∧ PlainL s.heap a its.toArray ∧ xs.length ≤ sizeLine := by
  rcases h with h | ⟨o, its, n, hk, hc, hd, hs, hz, r⟩
  · obtain ⟨z, its, n, r, e⟩ := h.ok I.hok
    exact ⟨its, r, ⟨_, n, e, rfl, rfl, rfl⟩, z⟩
  · refine ⟨its.toList, r, ⟨o, n, I.kIn a o hk, hc, hd, by simpa using hs⟩, ?_⟩
    have e := r.length
    simp only [Array.length_toList] at e
    omega
theorem Inv.tuple (I : Inv X pins σ H s) (h : SqT X.K H a xs) : ∃ its : List Value, Vals xs its ∧ IsTup s.heap a its.toArray ∧ xs.length ≤ sizeLine := by
  rcases h with h | ⟨o, its, n, hk, hc, hs, hz, r⟩
  · obtain ⟨z, its, r, p⟩ := h.ok I.hok
    exact ⟨its, r, p, z⟩
  · refine ⟨its.toList, r, ⟨o, I.kIn a o hk, hc, n, by simpa using hs⟩, ?_⟩
    have e := r.length
    simp only [Array.length_toList] at e
    omega
theorem Inv.list_inj (I : Inv X pins σ H s) (h : SqL X.K H a xs) (h' : SqL X.K H a ys) : xs = ys := by
  obtain ⟨its, r, ⟨o, n, e, _, _, d⟩, _⟩ := I.list h
  obtain ⟨its', r', ⟨o', n', e', _, _, d'⟩, _⟩ := I.list h'
  rw [e] at e'; cases e'
  rw [d] at d'
  injection d' with d1 _
  have : its = its' := by simpa using congrArg Array.toList d1
  subst this
  exact r.inj r'
theorem Inv.tuple_inj (I : Inv X pins σ H s) (h : SqT X.K H a xs) (h' : SqT X.K H a ys) : xs = ys := by
  obtain ⟨its, r, ⟨o, e, _, n, d⟩, _⟩ := I.tuple h
  obtain ⟨its', r', ⟨o', e', _, n', d'⟩, _⟩ := I.tuple h'
  rw [e] at e'; cases e'
  rw [d] at d'
  injection d' with d1 _
  have : its = its' := by simpa using congrArg Array.toList d1
  subst this
  exact r.inj r'
end
noncomputable abbrev Cx.wish (X : Cx) (E : Value → Shared → Prop) : Cx := { X with xe := E }
noncomputable abbrev Cx.nox (X : Cx) : Cx := X.wish fun _ _ => False
theorem Cx.Ok.wish {X : Cx} (ok : X.Ok) (E : Value → Shared → Prop) : (X.wish E).Ok :=
  ⟨ok.mod, ok.kind, ok.glob, ok.blt, ok.above, ok.inj, ok.has, ok.cab, ok.hd, ok.frames, ok.stk, ok.exf, ok.bs, ok.bsz, ok.noex, ok.exfs, ok.funs, ok.frf⟩
theorem Cx.Ok.unwish {X : Cx} {E : Value → Shared → Prop} (ok : (X.wish E).Ok) : X.Ok :=
  ⟨ok.mod, ok.kind, ok.glob, ok.blt, ok.above, ok.inj, ok.has, ok.cab, ok.hd, ok.frames, ok.stk, ok.exf, ok.bs, ok.bsz, ok.noex, ok.exfs, ok.funs, ok.frf⟩
section
variable {X : Cx} {pins : List (Addr × Obj)} {σ : St} {H : Hp} {s : Shared} {E : Value → Shared → Prop}
theorem Inv.wish (I : Inv X pins σ H s) (E : Value → Shared → Prop) : Inv (X.wish E) pins σ H s := ⟨I.ok.wish E, I.os, I.bare, I.base, I.loc, I.cell, I.free, I.freeC, I.pin, I.hok, I.len⟩
theorem Inv.unwish (I : Inv (X.wish E) pins σ H s) : Inv X pins σ H s := ⟨I.ok.unwish, I.os, I.bare, I.base, I.loc, I.cell, I.free, I.freeC, I.pin, I.hok, I.len⟩
theorem SP.unwish {D : Ends} {f : Flow} {s' : Shared} (h : SP (X.wish E) pins D f s') : SP X pins D f s' := by
  cases f with
  | next => obtain ⟨σ', H', I, q⟩ := h; exact ⟨σ', H', I.unwish, q⟩
  | brk => obtain ⟨σ', H', I, q⟩ := h; exact ⟨σ', H', I.unwish, q⟩
  | cont => obtain ⟨σ', H', I, q⟩ := h; exact ⟨σ', H', I.unwish, q⟩
  | ret u => obtain ⟨v, σ', H', I, r, q⟩ := h; exact ⟨v, σ', H', I.unwish, r, q⟩
end
section
variable {X : Cx} {st : Stmt} {rest : List Stmt} {t u : TS} {e : Expr} {te : TE} {pos : Pos}
noncomputable def tNext : TS := fun D σ H => D.nx σ H
noncomputable def tSeq (t u : TS) : TS := fun D σ H => t { D with nx := u D } σ H
theorem pss_nil : PSs X [] tNext := fun _ _ σ H _ I h => wpAny_execs_nil ⟨σ, H, I, h⟩
theorem pss_cons (h1 : PS X st t) (h2 : PSs X rest u) : PSs X (st :: rest) (tSeq t u) := by
  intro pins s σ H D I h
  refine wpAny_execs_cons (thn (h1 pins s σ H { D with nx := u D } I h) fun f s1 q => ?_)
  cases f with
  | next =>
    obtain ⟨σ', H', I', q⟩ := q
    exact h2 pins s1 σ' H' D I' q
  | ret v => exact q
  | brk => exact q
  | cont => exact q
theorem pss_one (h1 : PS X st t) : PSs X [st] t := by
  intro pins s σ H D I h
  refine wpAny_execs_cons (thn (h1 pins s σ H D I h) fun f s1 q => ?_)
  cases f with
  | next => exact wpAny_execs_nil q
  | ret v => exact q
  | brk => exact q
  | cont => exact q
theorem Inv.quiet {pins : List (Addr × Obj)} {σ : St} {H : Hp} {s : Shared} (I : Inv X pins σ H s) : interactive X.env = false := by simp [interactive, I.ok.kind]
noncomputable def tDrop (te : TE) : TS := fun D σ H => te σ H fun _ H1 => D.nx σ H1
theorem ps_expr (he : PE X e te) (hs : swapsWith e none pos.line X.env = pure false := by rfl) : PS X (.Expr e pos) (tDrop te) := by
  intro pins s σ H D I h
  exact wpAny_Expr_any (thn (he pins s σ H _ I h) fun v s1 ⟨x, H1, I1, r1, q1⟩ => ⟨σ, H1, I1, q1⟩) I.quiet hs
noncomputable def tRet (te : TE) : TS := fun D σ H => te σ H D.rt
theorem ps_ret (he : PE X e te) : PS X (.Return (some e) pos) (tRet te) := by
  intro pins s σ H D I h
  exact wpAny_Return_some (thn (he pins s σ H _ I h) fun v s1 ⟨x, H1, I1, r1, q1⟩ => ⟨x, σ, H1, I1, r1, q1⟩)
noncomputable def tIfS (c : TT) (t u : TS) : TS := fun D σ H => c σ H fun b H1 => if b = true then t D σ H1 else u D σ H1
theorem ps_if {c : Expr} {a b : List Stmt} {tc : TT} (hc : PT X c tc) (ha : PSs X a t) (hb : PSs X b u) : PS X (.If c a b pos) (tIfS tc t u) := by
  intro pins s σ H D I h
  refine wpAny_If (thn (hc pins s σ H _ I h) fun d s1 ⟨H1, I1, q1⟩ => ?_)
  cases d with
  | true => exact ha pins s1 σ H1 D I1 q1
  | false => exact hb pins s1 σ H1 D I1 q1
end
noncomputable abbrev TG := V → St → Hp → (St → Hp → Prop) → Prop
noncomputable abbrev TGs := List V → St → Hp → (St → Hp → Prop) → Prop
noncomputable def PG (X : Cx) (target : Expr) (t : TG) : Prop :=
  ∀ (pins : List (Addr × Obj)) (s : Shared) (σ : St) (H : Hp) (v : V) (u : Value) (Q : St → Hp → Prop), Inv X pins σ H s → RelV v u → t v σ H Q →
    wpAny (model X.prog X.w) X.A (assign target X.env u) (fun _ s' => ∃ σ' H', Inv X pins σ' H' s' ∧ Q σ' H') X.xe s
noncomputable def PGs (X : Cx) (ts : List Expr) (t : TGs) : Prop :=
  ∀ (pins : List (Addr × Obj)) (s : Shared) (σ : St) (H : Hp) (vs : List V) (us : List Value) (Q : St → Hp → Prop), Inv X pins σ H s → Vals vs us → t vs σ H Q →
    wpAny (model X.prog X.w) X.A (assignInOrder ((assignEach ts X.env).map (·.2)) us) (fun _ s' => ∃ σ' H', Inv X pins σ' H' s' ∧ Q σ' H') X.xe s
section
variable {X : Cx} {pos : Pos}
noncomputable def gName (i : Nat) : TG := fun v σ H Q => Q (σ.set i (some v)) H
theorem pg_name {i : Nat} {x : Str} (hN : X.N.Nodup) (hi : X.N[i]? = some x) (hx : Loc X.env.scope x) (hf : X.fn x = true ∨ X.env.scope.names.lookup x = some .local := by first | exact .inl rfl | exact .inr rfl | assumption) : PG X (.Name x pos) (gName i) := by
  intro pins s σ H v u Q I r h
  exact wpAny_assign_Name (store_ok I hN hi hx r (fun s' I' => ⟨_, H, I', h⟩) hf)
noncomputable def gNil : TGs := fun vs σ H Q => vs = [] ∧ Q σ H
noncomputable def gCons (t : TG) (u : TGs) : TGs := fun vs σ H Q => ∃ v r, vs = v :: r ∧ t v σ H fun σ' H' => u r σ' H' Q
theorem pgs_nil : PGs X [] gNil := by
  intro pins s σ H vs us Q I r h
  obtain ⟨e, h⟩ := h
  subst e
  cases r
  exact assignInOrder_nil ⟨σ, H, I, h⟩
theorem pgs_cons {e : Expr} {es : List Expr} {t : TG} {u : TGs} (h1 : PG X e t) (h2 : PGs X es u)
    (hs : (assignEach (e :: es) X.env).map (·.2) = assign e X.env :: (assignEach es X.env).map (·.2) := by rfl) : PGs X (e :: es) (gCons t u) := by
  intro pins s σ H vs us Q I r h
  obtain ⟨v, vr, e1, h⟩ := h
  subst e1
  cases r with
  | cons r rr =>
    rw [hs]
    refine assignInOrder_cons (thn (h1 pins s σ H _ _ _ I r h) fun _ s1 ⟨σ1, H1, I1, q1⟩ => ?_)
    exact h2 pins s1 σ1 H1 _ _ Q I1 rr q1
noncomputable def gTup (K : PySem.W.Frag) (n : Nat) (t : TGs) : TG := fun v σ H Q => ∃ a xs, v = .ref a ∧ SqT K H a xs ∧ xs.length = n ∧ t xs σ H Q
theorem pg_tup {es : List Expr} {k : Nat} {t : TGs} {n : Nat} (hc : X.calm = true) (h : PGs X es t)
    (hn : (assignEach es X.env).length = n := by rfl) (hst : (assignEach es X.env).findIdx? (·.1) = none := by rfl) : PG X (.Tuple es k pos) (gTup X.K n t) := by
  intro pins s σ H v u Q I r hw
  obtain ⟨a, xs, e1, hq, hl, hw⟩ := hw
  subst e1
  cases r
  obtain ⟨its, rv, ht, hz⟩ := I.tuple hq
  refine assign_Tuple_tuple (I.ok.hd hc) ht (by simp [hn, ← hl, rv.length]) hst fun h' hx => ?_
  have I1 : Inv X pins σ H { s with heap := h' } := I.kept (t' := s.toks) fun b o e => hx b o (Nat.ne_of_lt (Heap.lt_size e)) e
  exact h pins _ σ H xs _ Q I1 (by simpa using rv) hw
noncomputable def tAsg (te : TE) (g : TG) : TS := fun D σ H => te σ H fun x H1 => g x σ H1 D.nx
theorem ps_set {i : Nat} {x : Str} {e : Expr} {te : TE} {pos' : Pos} (hN : X.N.Nodup) (hi : X.N[i]? = some x) (hx : Loc X.env.scope x) (he : PE X e te) (hs : swapsWith e (some (.Name x pos')) pos.line X.env = pure false := by rfl) (hf : X.fn x = true ∨ X.env.scope.names.lookup x = some .local := by first | exact .inl rfl | exact .inr rfl | assumption) :
    PS X (.Assign [.Name x pos'] e pos) (tAsg te (gName i)) := by
  intro pins s σ H D I h
  refine wpAny_Assign_Name (thn (he pins s σ H _ I h) fun v s1 ⟨y, H1, I1, r1, q1⟩ => ?_) hs
  exact store_ok I1 hN hi hx r1 (fun s2 I2 => ⟨_, H1, I2, q1⟩) hf
end
section
variable {X : Cx} {pos : Pos}
inductive tWhile (c : TT) (tb : TS) (D : Ends) (σ0 : St) (H0 : Hp) : Prop
  | mk (W : Nat → St → Hp → Prop) (h0 : ∃ m, W m σ0 H0) (h : ∀ m σ H, W m σ H → c σ H fun b H1 => if b = true then ∃ N : St → Hp → Prop, (∀ σ' H', N σ' H' → ∃ m', m' < m ∧ W m' σ' H') ∧ tb { D with nx := N, ct := N, bk := D.nx } σ H1 else D.nx σ H1) : tWhile c tb D σ0 H0
theorem ps_while {c : Expr} {body : List Stmt} {tc : TT} {tb : TS} (hp : PassesOwn (model X.prog X.w) X.A X.env X.xe) (hc : PT X c tc) (hb : PSs X body tb) : PS X (.While c body [] pos) (tWhile tc tb) := by
  intro pins s σ H D I h
  obtain ⟨W, ⟨m0, w0⟩, turn⟩ := h
  refine wpAny_While (codeAny_whileLoop (fun n s' => ∃ σ' H', Inv X pins σ' H' s' ∧ W n σ' H') ?_ m0 ⟨σ, H, I, w0⟩)
  rintro n s1 ⟨σ1, H1, I1, w1⟩
  refine wpAny_passesOwn hp (thn (hc pins s1 σ1 H1 _ I1 (turn n σ1 H1 w1)) fun b s2 ⟨H2, I2, q2⟩ => ?_)
  cases b with
  | true =>
    obtain ⟨N, hN, q2⟩ := q2
    rw [if_pos rfl]
    refine wpAny_passesOwn hp (thn (hb pins s2 σ1 H2 _ I2 q2) fun f s3 q3 => ?_)
    cases f with
    | next =>
      obtain ⟨σ3, H3, I3, n3⟩ := q3
      obtain ⟨m', hm, w3⟩ := hN σ3 H3 n3
      exact ⟨m', hm, σ3, H3, I3, w3⟩
    | cont =>
      obtain ⟨σ3, H3, I3, n3⟩ := q3
      obtain ⟨m', hm, w3⟩ := hN σ3 H3 n3
      exact ⟨m', hm, σ3, H3, I3, w3⟩
    | brk => exact q3
    | ret v => exact q3
  | false =>
    rw [if_neg Bool.false_ne_true]
    exact wpAny_execs_nil ⟨σ1, H2, I2, q2⟩
end
structure It where
  go : Nat → Hp → Prop
  yld : Nat → Hp → V → Hp → Prop
  stop : Nat → Hp → Prop
noncomputable def FpOk (X : Cx) (pins : List (Addr × Obj)) (H : Hp) (b : Addr) : Prop :=
  H b = none ∧ b ≠ X.env.locals ∧ b ∉ X.fs ∧ (b ∈ X.ex ∨ X.s₀.heap.objs.size ≤ b) ∧ (∀ x c, X.env.cells.lookup x = some c → c ≠ b) ∧ ∀ p ∈ X.pn ++ pins, p.1 ≠ b
theorem Inv.fpOk {X : Cx} {pins : List (Addr × Obj)} {σ : St} {H H' : Hp} {s : Shared} {b : Addr} (I : Inv X pins σ H s) (hb : s.heap.objs.size ≤ b) (hn : H' b = none) : FpOk X pins H' b := by
  refine ⟨hn, Nat.ne_of_gt (Nat.lt_of_lt_of_le I.lt hb), I.nofs hb, .inr (Nat.le_trans I.sz hb), fun x c e z => ?_, fun p hp z => ?_⟩
  · obtain ⟨v, q⟩ := I.cell x c e
    exact absurd (Nat.lt_of_lt_of_le q.lt (by rw [z]; exact hb)) (Nat.lt_irrefl _)
  · exact absurd (Nat.lt_of_lt_of_le (Heap.lt_size (I.pin p hp).1) (by rw [z]; exact hb)) (Nat.lt_irrefl _)
structure Turn (P : Program) (w : World) (K : PySem.W.Frag) (tg : Expr) (J : It) (fp : List Addr) (it : Addr) (tn : Nat → Heap → Prop) : Prop where
  mem : it ∈ fp
  obj : ∀ i h, tn i h → ∀ b ∈ fp, ∃ o, h.get? b = some o ∧ ∀ v, o.data ≠ .cell v
  keep : ∀ i h h', tn i h → (∀ b ∈ fp, ∀ o, h.get? b = some o → h'.get? b = some o) → tn i h'
  item : ∀ (X : Cx), X.prog = P → X.w = w → X.K = K → X.calm = true → ∀ (i : Nat) (pins : List (Addr × Obj)) (s : Shared) (σ : St) (H : Hp) (E : Value → Shared → Prop), Inv X pins σ H s → (∀ b ∈ fp, FpOk X pins H b) → tn i s.heap → J.go i H →
    wpAny (model P w) X.A (pyNext (.ref it)) (fun r s1 => ∃ u, r = some u ∧
      wpAny (model P w) X.A (letOwnedTupleGo tg (.ref it) u) (fun _ s2 => ∃ x H', Inv X pins σ H' s2 ∧ RelV x u ∧ J.yld i H x H' ∧ tn (i + 1) s2.heap ∧ ∀ b ∈ fp, H' b = none) E s1) E s
  done : ∀ (X : Cx), X.prog = P → X.w = w → X.K = K → X.calm = true → ∀ (i : Nat) (pins : List (Addr × Obj)) (s : Shared) (σ : St) (H : Hp) (E : Value → Shared → Prop), Inv X pins σ H s → (∀ b ∈ fp, FpOk X pins H b) → tn i s.heap → J.stop i H →
    wpAny (model P w) X.A (pyNext (.ref it)) (fun r s1 => r = none ∧ Inv X pins σ H s1) E s
  self : ∀ (A : Around) (i : Nat) (s : Shared) (Q : Value → Shared → Prop) (E : Value → Shared → Prop), tn i s.heap → Q (.ref it) s → wpAny (model P w) A (pyIter (.ref it)) Q E s
noncomputable abbrev TI := St → Hp → (It → Hp → Prop) → Prop
noncomputable def PIE (X : Cx) (pins : List (Addr × Obj)) (σ : St) (tg : Expr) (R : It → Hp → Prop) (itv : Value) (s2 : Shared) : Prop :=
  ∃ (it : Addr) (fp : List Addr) (tn : Nat → Heap → Prop) (J : It) (H' : Hp), itv = .ref it ∧ Inv X pins σ H' s2 ∧ Turn X.prog X.w X.K tg J fp it tn ∧ tn 0 s2.heap ∧ (∀ b ∈ fp, FpOk X pins H' b) ∧ R J H'
noncomputable def PI (X : Cx) (tg iter : Expr) (wi : TI) : Prop :=
  ∀ (pins : List (Addr × Obj)) (s : Shared) (σ : St) (H : Hp) (R : It → Hp → Prop), Inv X pins σ H s → wi σ H R →
    wpAny (model X.prog X.w) X.A (eval iter X.env) (fun v s1 => wpAny (model X.prog X.w) X.A (pyIter v) (PIE X pins σ tg R) X.xe s1) X.xe s
theorem go_of {M : Model} {A : Around} {E : Value → Shared → Prop} {s : Shared} {tg : Expr} {it : Addr} {u : Value} {o : Obj} {n : String} {vs : Array Value} {Q : Unit → Shared → Prop} (ho : s.heap.get? it = some o) (hc : o.cls = .type n) (hd : o.data = .fields vs)
    (hn : ["enumerate", "zip", "dict_itemiterator", "dict_reverseitemiterator", "odict_iterator", "itertools.zip_longest", "itertools.pairwise"].contains n = false) (hQ : Q () s) : wpAny M A (letOwnedTupleGo tg (.ref it) u) Q E s := by
  unfold letOwnedTupleGo
  cases tg <;> first
    | exact wpAny_pure hQ
    | (cases u <;> first
        | exact wpAny_pure hQ
        | (refine wpAny_bind (wpAny_load ho ?_)
           rw [hc, hd]
           show wpAny M A (if (["enumerate", "zip", "dict_itemiterator", "dict_reverseitemiterator", "odict_iterator", "itertools.zip_longest", "itertools.pairwise"].contains n && vs[0]? == some (rawInt _)) = true then _ else _) Q E s
           rw [if_neg (by intro h; rw [hn, Bool.false_and] at h; cases h)]
           exact wpAny_pure hQ))
noncomputable def Itl (K : PySem.W.Frag) (a : Addr) : It :=
  ⟨fun i H => ∃ xs x, SqL K H a xs ∧ xs[i]? = some x, fun i H x H' => H' = H ∧ ∀ xs, SqL K H a xs → xs[i]? = some x, fun i H => ∃ xs, SqL K H a xs ∧ xs.length ≤ i⟩
noncomputable def Itt (K : PySem.W.Frag) (a : Addr) : It :=
  ⟨fun i H => ∃ xs x, SqT K H a xs ∧ xs[i]? = some x, fun i H x H' => H' = H ∧ ∀ xs, SqT K H a xs → xs[i]? = some x, fun i H => ∃ xs, SqT K H a xs ∧ xs.length ≤ i⟩
noncomputable def Itr (lo : Int) (n : Nat) : It := ⟨fun i _ => i < n, fun i H x H' => H' = H ∧ x = .int (lo + i), fun i _ => n ≤ i⟩
theorem turn_list {P : Program} {w : World} {K : PySem.W.Frag} {tg : Expr} (a it : Addr) : Turn P w K tg (Itl K a) [it] it (fun i h => h.IsListIter it a i) where
  mem := by simp
  obj := fun i h st b hb => by
    have e : b = it := by simpa using hb
    subst e
    obtain ⟨o, e, c, d⟩ := st
    exact ⟨o, e, fun v z => by rw [d] at z; cases z⟩
  keep := fun i h h' st k => st.at fun o e => k it (by simp) o e
  item := by
    intro X hP hw hK hc i pins s σ H E I hf st hg
    subst hP hw hK
    obtain ⟨xs, x, hq, hx⟩ := hg
    obtain ⟨its, rv, p, hz⟩ := I.list hq
    obtain ⟨u, hu, ru⟩ := rv.get hx
    obtain ⟨f0, f1, f2, f3, f4, f5⟩ := hf it (by simp)
    refine wpAny_pyNext_list_item st p.isList (x := u) (by simpa using hu) fun h' st' sb => ?_
    have I1 : Inv X pins σ H { s with heap := h' } := I.turned (t' := s.toks) (fun b o hb e => (sb.2 b hb).trans e) f0 f1 f3 f4 f5
    obtain ⟨o, e, c, d⟩ := id st'
    exact ⟨u, rfl, go_of (s := { s with heap := h' }) e c d (by decide) ⟨x, H, I1, ru, ⟨rfl, fun ys hy => by rw [I.list_inj hy hq]; exact hx⟩, st', fun b hb => (hf b hb).1⟩⟩
  done := by
    intro X hP hw hK hc i pins s σ H E I hf st hg
    subst hP hw hK
    obtain ⟨xs, hq, hx⟩ := hg
    obtain ⟨its, rv, p, hz⟩ := I.list hq
    obtain ⟨f0, f1, f2, f3, f4, f5⟩ := hf it (by simp)
    have hl := rv.length
    exact wpAny_pyNext_list_end (I.ok.hd hc) st p.isList (by simp; omega) fun h' eb => ⟨rfl, I.turned (t' := s.toks) (fun b o hb e => eb b o hb e) f0 f1 f3 f4 f5⟩
  self := fun _ _ _ _ _ st h => wpAny_pyIter_listiter st h
theorem turn_tuple {P : Program} {w : World} {K : PySem.W.Frag} {tg : Expr} (a it : Addr) : Turn P w K tg (Itt K a) [it] it (fun i h => h.IsTupleIter it a i) where
  mem := by simp
  obj := fun i h st b hb => by
    have e : b = it := by simpa using hb
    subst e
    obtain ⟨o, e, c, d⟩ := st
    exact ⟨o, e, fun v z => by rw [d] at z; cases z⟩
  keep := fun i h h' st k => st.at fun o e => k it (by simp) o e
  item := by
    intro X hP hw hK hc i pins s σ H E I hf st hg
    subst hP hw hK
    obtain ⟨xs, x, hq, hx⟩ := hg
    obtain ⟨its, rv, p, hz⟩ := I.tuple hq
    obtain ⟨u, hu, ru⟩ := rv.get hx
    obtain ⟨f0, f1, f2, f3, f4, f5⟩ := hf it (by simp)
    refine wpAny_pyNext_tuple_item st (show s.heap.IsTuple a its.toArray from p) (x := u) (by simpa using hu) fun h' st' sb => ?_
    have I1 : Inv X pins σ H { s with heap := h' } := I.turned (t' := s.toks) (fun b o hb e => (sb.2 b hb).trans e) f0 f1 f3 f4 f5
    obtain ⟨o, e, c, d⟩ := id st'
    exact ⟨u, rfl, go_of (s := { s with heap := h' }) e c d (by decide) ⟨x, H, I1, ru, ⟨rfl, fun ys hy => by rw [I.tuple_inj hy hq]; exact hx⟩, st', fun b hb => (hf b hb).1⟩⟩
  done := by
    intro X hP hw hK hc i pins s σ H E I hf st hg
    subst hP hw hK
    obtain ⟨xs, hq, hx⟩ := hg
    obtain ⟨its, rv, p, hz⟩ := I.tuple hq
    obtain ⟨f0, f1, f2, f3, f4, f5⟩ := hf it (by simp)
    have hl := rv.length
    exact wpAny_pyNext_tuple_end (I.ok.hd hc) st (show s.heap.IsTuple a its.toArray from p) (by simp; omega) fun h' eb => ⟨rfl, I.turned (t' := s.toks) (fun b o hb e => eb b o hb e) f0 f1 f3 f4 f5⟩
  self := fun _ _ _ _ _ st h => wpAny_pyIter_tupleiter st h
theorem turn_range {P : Program} {w : World} {K : PySem.W.Frag} {tg : Expr} (it : Addr) (lo : Int) (n : Nat) : Turn P w K tg (Itr lo n) [it] it (fun i h => IsRangeIter h it (lo + (i : Nat) * 1) ((n : Int) - (i : Nat)) 1) where
  mem := by simp
  obj := fun i h st b hb => by
    have e : b = it := by simpa using hb
    subst e
    exact ⟨_, st, fun v z => by
      have z' : Data.fields _ = Data.cell v := z
      cases z'⟩
  keep := fun i h h' st k => k it (by simp) _ st
  item := by
    intro X hP hw hK hc i pins s σ H E I hf st hg
    subst hP hw hK
    obtain ⟨f0, f1, f2, f3, f4, f5⟩ := hf it (by simp)
    have W := Walks.range (prog := X.prog) (w := X.w) (I.ok.hd hc) it lo 1 n
    refine W.item i s _ _ hg st fun v h' tk hv st' kk => ?_
    obtain ⟨t, rfl⟩ := hv
    have I1 : Inv X pins σ H { s with heap := h', toks := tk } := I.turned (fun b o hb e => kk b o (by simpa using hb) e) f0 f1 f3 f4 f5
    refine ⟨_, rfl, go_of (s := { s with heap := h', toks := tk }) (n := "range_iterator") st' rfl rfl (by decide) ⟨.int (lo + i), H, I1, ⟨t, ?_⟩, ⟨rfl, rfl⟩, st', fun b hb => (hf b hb).1⟩⟩
    rw [Int.mul_one]
  done := by
    intro X hP hw hK hc i pins s σ H E I hf st hg
    subst hP hw hK
    obtain ⟨f0, f1, f2, f3, f4, f5⟩ := hf it (by simp)
    exact wpAny_pyNext_range_end (I.ok.hd hc) st (by have : n ≤ i := hg; omega) fun h' eb => ⟨rfl, I.turned (t' := s.toks) (fun b o hb e => eb b o hb e) f0 f1 f3 f4 f5⟩
  self := fun _ _ _ _ _ st h => wpAny_pyIter_rangeiter st h
end L2
namespace L2
open PySem PySem.Spec PyProof.Rows
section
variable {X : Cx} {tg : Expr}
noncomputable def iList (K : PySem.W.Frag) (tl : TE) : TI := fun σ H R => tl σ H fun x H1 => ∃ a, x = .ref a ∧ (∃ xs, SqL K H1 a xs) ∧ R (Itl K a) H1
noncomputable def iTup (K : PySem.W.Frag) (tl : TE) : TI := fun σ H R => tl σ H fun x H1 => ∃ a, x = .ref a ∧ (∃ xs, SqT K H1 a xs) ∧ R (Itt K a) H1
theorem pi_list {l : Expr} {tl : TE} (hl : PE X l tl) : PI X tg l (iList X.K tl) := by
  intro pins s σ H R I h
  refine thn (hl pins s σ H _ I h) fun v s1 ⟨x, H1, I1, r1, q1⟩ => ?_
  obtain ⟨a, e, ⟨xs, hq⟩, q⟩ := q1
  subst e
  cases r1
  obtain ⟨its, rv, p, hz⟩ := I1.list hq
  refine wpAny_pyIter_list p.isList ?_
  refine ⟨s1.heap.objs.size, [s1.heap.objs.size], _, _, H1, rfl, I1.kept (t' := s1.toks) fun b o e => Heap.get?_push_of_some _ e, turn_list a _, ⟨_, Heap.get?_push_size _ rfl, rfl, rfl⟩, fun b hb => ?_, q⟩
  have e : b = s1.heap.objs.size := by simpa using hb
  subst e
  exact I1.fpOk (Nat.le_refl _) (I1.hok.fresh (Nat.le_refl _))
theorem pi_tup {l : Expr} {tl : TE} (hl : PE X l tl) : PI X tg l (iTup X.K tl) := by
  intro pins s σ H R I h
  refine thn (hl pins s σ H _ I h) fun v s1 ⟨x, H1, I1, r1, q1⟩ => ?_
  obtain ⟨a, e, ⟨xs, hq⟩, q⟩ := q1
  subst e
  cases r1
  obtain ⟨its, rv, p, hz⟩ := I1.tuple hq
  refine wpAny_pyIter_tuple (show s1.heap.IsTuple a its.toArray from p) ?_
  refine ⟨s1.heap.objs.size, [s1.heap.objs.size], _, _, H1, rfl, I1.kept (t' := s1.toks) fun b o e => Heap.get?_push_of_some _ e, turn_tuple a _, ⟨_, Heap.get?_push_size _ rfl, rfl, rfl⟩, fun b hb => ?_, q⟩
  have e : b = s1.heap.objs.size := by simpa using hb
  subst e
  exact I1.fpOk (Nat.le_refl _) (I1.hok.fresh (Nat.le_refl _))
noncomputable def tFor (wi : TI) (g : TG) (tb : TS) : TS := fun D σ H => wi σ H fun J H1 => ∃ W : Nat → Nat → St → Hp → Prop, (∃ m, W 0 m σ H1) ∧ ∀ i m σ H, W i m σ H →
  (J.stop i H ∧ D.nx σ H) ∨ (J.go i H ∧ ∃ N : St → Hp → Prop, (∀ σ' H', N σ' H' → ∃ m', m' < m ∧ W (i + 1) m' σ' H') ∧ ∀ x H', J.yld i H x H' → g x σ H' fun σ2 H2 => tb { D with nx := N, ct := N, bk := D.nx } σ2 H2)
noncomputable def pinsAt (fp : List Addr) (h : Heap) : List (Addr × Obj) := fp.filterMap fun b => (h.get? b).map fun o => (b, o)
theorem mem_pinsAt {fp : List Addr} {h : Heap} {b : Addr} {o : Obj} (hb : b ∈ fp) (e : h.get? b = some o) : (b, o) ∈ pinsAt fp h := List.mem_filterMap.mpr ⟨b, hb, by rw [e]; rfl⟩
theorem of_pinsAt {fp : List Addr} {h : Heap} {p : Addr × Obj} (hp : p ∈ pinsAt fp h) : p.1 ∈ fp ∧ h.get? p.1 = some p.2 := by
  obtain ⟨b, hb, e⟩ := List.mem_filterMap.mp hp
  cases q : h.get? b with
  | none => rw [q] at e; cases e
  | some o =>
    rw [q] at e
    have e' : (b, o) = p := Option.some.inj e
    subst e'
    exact ⟨hb, q⟩
theorem Inv.pinned {pins : List (Addr × Obj)} {σ : St} {H : Hp} {s : Shared} {fp : List Addr} (I : Inv X pins σ H s) (hf : ∀ b ∈ fp, FpOk X pins H b) (ho : ∀ b ∈ fp, ∃ o, s.heap.get? b = some o ∧ ∀ v, o.data ≠ .cell v) : Inv X (pins ++ pinsAt fp s.heap) σ H s :=
  I.pins_of fun p hp => (List.mem_append.mp hp).elim (fun z => I.pin p (List.mem_append_right _ z)) fun z => by
    obtain ⟨hb, e⟩ := of_pinsAt z
    obtain ⟨f0, f1, f2, _⟩ := hf p.1 hb
    obtain ⟨o, e', d⟩ := ho p.1 hb
    rw [e] at e'; cases e'
    exact ⟨e, f0, f1, f2, d⟩
theorem Inv.unpinned {pins pl : List (Addr × Obj)} {σ : St} {H : Hp} {s : Shared} (I : Inv X (pins ++ pl) σ H s) : Inv X pins σ H s := I.pins_of fun p hp => I.pin p (List.mem_append_right _ (List.mem_append_left _ hp))
theorem ps_for {iter : Expr} {body : List Stmt} {wi : TI} {g : TG} {tb : TS} {pos : Pos} (hp : PassesOwn (model X.prog X.w) X.A X.env X.xe) (hc : X.calm = true) (hi : PI X tg iter wi) (hg : PG X tg g) (hb : PSs X body tb)
    (hs : ∀ x, foldedSetIterable iter X.env x = pure x := by intro _; rfl) : PS X (.For tg iter body [] pos) (tFor wi g tb) := by
  intro pins s σ H D I h
  refine wpAny_For (thn (hi pins s σ H _ I h) fun v s1 h1 => thn h1 fun itv s2 h2 => ?_) hs
  obtain ⟨it, fp, tn, J, H2, e, I2, T, st2, f2, W, ⟨m0, w0⟩, turn⟩ := h2
  subst e
  have stat : ∀ {H' : Hp}, (∀ b ∈ fp, H' b = none) → ∀ b ∈ fp, FpOk X pins H' b := fun hn b hb => ⟨hn b hb, (f2 b hb).2⟩
  refine codeAny_forLoop_any (fun n s' => ∃ i σ' H', Inv X pins σ' H' s' ∧ tn i s'.heap ∧ (∀ b ∈ fp, H' b = none) ∧ W i n σ' H') ?_ m0 ⟨0, σ, H2, I2, st2, fun b hb => (f2 b hb).1, w0⟩
  rintro n s3 ⟨i, σ3, H3, I3, st3, fr3, w3⟩
  rcases turn i n σ3 H3 w3 with ⟨stop, qn⟩ | ⟨go, N, hN, step⟩
  · refine wpAny_passesOwn hp (thn (T.done X rfl rfl rfl hc i pins s3 σ3 H3 X.xe I3 (stat fr3) st3 stop) fun r s4 ⟨hr, I4⟩ => ?_)
    subst hr
    exact wpAny_execs_nil ⟨σ3, H3, I4, qn⟩
  · refine wpAny_passesOwn hp (thn (T.item X rfl rfl rfl hc i pins s3 σ3 H3 X.xe I3 (stat fr3) st3 go) fun r s4 ⟨u, hr, h4⟩ => ?_)
    subst hr
    refine wpAny_passesOwn hp (thn h4 fun _ s5 ⟨x, H5, I5, r5, y5, st5, fr5⟩ => ?_)
    have I5' := I5.pinned (stat fr5) (T.obj _ _ st5)
    refine wpAny_passesOwn hp (thn (hg _ s5 σ3 H5 x u _ I5' r5 (step x H5 y5)) fun _ s6 ⟨σ6, H6, I6, q6⟩ => ?_)
    refine wpAny_passesOwn hp (thn (hb _ s6 σ6 H6 _ I6 q6) fun f s7 q7 => ?_)
    have again : ∀ {σ7 : St} {H7 : Hp}, Inv X (pins ++ pinsAt fp s5.heap) σ7 H7 s7 → N σ7 H7 → ∃ m, m < n ∧ ∃ i σ' H', Inv X pins σ' H' s7 ∧ tn i s7.heap ∧ (∀ b ∈ fp, H' b = none) ∧ W i m σ' H' := fun {σ7 H7} I7 n7 => by
      obtain ⟨m', hm, w7⟩ := hN σ7 H7 n7
      refine ⟨m', hm, i + 1, σ7, H7, I7.unpinned, T.keep _ _ _ st5 fun b hb o e => (I7.pin (b, o) (List.mem_append_right _ (List.mem_append_right _ (mem_pinsAt hb e)))).1, fun b hb => ?_, w7⟩
      obtain ⟨o, e, d⟩ := T.obj _ _ st5 b hb
      exact (I7.pin (b, o) (List.mem_append_right _ (List.mem_append_right _ (mem_pinsAt hb e)))).2.1
    cases f with
    | next => obtain ⟨σ7, H7, I7, n7⟩ := q7; exact again I7 n7
    | cont => obtain ⟨σ7, H7, I7, n7⟩ := q7; exact again I7 n7
    | brk => obtain ⟨σ7, H7, I7, q7⟩ := q7; exact ⟨σ7, H7, I7.unpinned, q7⟩
    | ret v => obtain ⟨x7, σ7, H7, I7, r7, q7⟩ := q7; exact ⟨x7, σ7, H7, I7.unpinned, r7, q7⟩
end
theorem for_list {K : PySem.W.Frag} {a : Addr} {xs : List V} {g : TG} {tb : TS} {D : Ends} {σ : St} {H : Hp} (Pv : Nat → St → Hp → Prop) (h0 : Pv 0 σ H) (hl : ∀ i σ H, i ≤ xs.length → Pv i σ H → SqL K H a xs)
    (hs : ∀ i x σ H, xs[i]? = some x → Pv i σ H → g x σ H fun σ2 H2 => tb { D with nx := Pv (i + 1), ct := Pv (i + 1), bk := D.nx } σ2 H2) (hd : ∀ σ H, Pv xs.length σ H → D.nx σ H) :
    ∃ W : Nat → Nat → St → Hp → Prop, (∃ m, W 0 m σ H) ∧ ∀ i m σ H, W i m σ H →
      ((Itl K a).stop i H ∧ D.nx σ H) ∨ ((Itl K a).go i H ∧ ∃ N : St → Hp → Prop, (∀ σ' H', N σ' H' → ∃ m', m' < m ∧ W (i + 1) m' σ' H') ∧ ∀ x H', (Itl K a).yld i H x H' → g x σ H' fun σ2 H2 => tb { D with nx := N, ct := N, bk := D.nx } σ2 H2) := by
  refine ⟨fun i m σ H => m = xs.length - i ∧ i ≤ xs.length ∧ Pv i σ H, ⟨xs.length, by simp, Nat.zero_le _, h0⟩, ?_⟩
  rintro i m σ H ⟨rfl, hi, p⟩
  have q := hl i σ H hi p
  by_cases hlt : i < xs.length
  · refine .inr ⟨⟨xs, xs[i], q, by simp [hlt]⟩, Pv (i + 1), fun σ' H' p' => ⟨xs.length - (i + 1), by omega, rfl, hlt, p'⟩, fun x H' y => ?_⟩
    obtain ⟨e, y⟩ := y
    subst e
    exact hs i x σ _ (y xs q) p
  · have e : i = xs.length := by omega
    subst e
    exact .inl ⟨⟨xs, q, Nat.le_refl _⟩, hd σ H p⟩
theorem for_tup {K : PySem.W.Frag} {a : Addr} {xs : List V} {g : TG} {tb : TS} {D : Ends} {σ : St} {H : Hp} (Pv : Nat → St → Hp → Prop) (h0 : Pv 0 σ H) (hl : ∀ i σ H, i ≤ xs.length → Pv i σ H → SqT K H a xs)
    (hs : ∀ i x σ H, xs[i]? = some x → Pv i σ H → g x σ H fun σ2 H2 => tb { D with nx := Pv (i + 1), ct := Pv (i + 1), bk := D.nx } σ2 H2) (hd : ∀ σ H, Pv xs.length σ H → D.nx σ H) :
    ∃ W : Nat → Nat → St → Hp → Prop, (∃ m, W 0 m σ H) ∧ ∀ i m σ H, W i m σ H →
      ((Itt K a).stop i H ∧ D.nx σ H) ∨ ((Itt K a).go i H ∧ ∃ N : St → Hp → Prop, (∀ σ' H', N σ' H' → ∃ m', m' < m ∧ W (i + 1) m' σ' H') ∧ ∀ x H', (Itt K a).yld i H x H' → g x σ H' fun σ2 H2 => tb { D with nx := N, ct := N, bk := D.nx } σ2 H2) := by
  refine ⟨fun i m σ H => m = xs.length - i ∧ i ≤ xs.length ∧ Pv i σ H, ⟨xs.length, by simp, Nat.zero_le _, h0⟩, ?_⟩
  rintro i m σ H ⟨rfl, hi, p⟩
  have q := hl i σ H hi p
  by_cases hlt : i < xs.length
  · refine .inr ⟨⟨xs, xs[i], q, by simp [hlt]⟩, Pv (i + 1), fun σ' H' p' => ⟨xs.length - (i + 1), by omega, rfl, hlt, p'⟩, fun x H' y => ?_⟩
    obtain ⟨e, y⟩ := y
    subst e
    exact hs i x σ _ (y xs q) p
  · have e : i = xs.length := by omega
    subst e
    exact .inl ⟨⟨xs, q, Nat.le_refl _⟩, hd σ H p⟩
theorem for_range {lo : Int} {n : Nat} {g : TG} {tb : TS} {D : Ends} {σ : St} {H : Hp} (Pv : Nat → St → Hp → Prop) (h0 : Pv 0 σ H)
    (hs : ∀ i σ H, i < n → Pv i σ H → g (.int (lo + i)) σ H fun σ2 H2 => tb { D with nx := Pv (i + 1), ct := Pv (i + 1), bk := D.nx } σ2 H2) (hd : ∀ σ H, Pv n σ H → D.nx σ H) :
    ∃ W : Nat → Nat → St → Hp → Prop, (∃ m, W 0 m σ H) ∧ ∀ i m σ H, W i m σ H →
      ((Itr lo n).stop i H ∧ D.nx σ H) ∨ ((Itr lo n).go i H ∧ ∃ N : St → Hp → Prop, (∀ σ' H', N σ' H' → ∃ m', m' < m ∧ W (i + 1) m' σ' H') ∧ ∀ x H', (Itr lo n).yld i H x H' → g x σ H' fun σ2 H2 => tb { D with nx := N, ct := N, bk := D.nx } σ2 H2) := by
  refine ⟨fun i m σ H => m = n - i ∧ i ≤ n ∧ Pv i σ H, ⟨n, by simp, Nat.zero_le _, h0⟩, ?_⟩
  rintro i m σ H ⟨rfl, hi, p⟩
  by_cases hlt : i < n
  · refine .inr ⟨hlt, Pv (i + 1), fun σ' H' p' => ⟨n - (i + 1), by omega, rfl, hlt, p'⟩, fun x H' y => ?_⟩
    obtain ⟨e, y⟩ := y
    subst e y
    exact hs i σ _ hlt p
  · have e : i = n := by omega
    subst e
    exact .inl ⟨Nat.le_refl _, hd σ H p⟩
end L2
namespace L2
open PySem PySem.Spec PyProof.Rows
noncomputable abbrev R2 := V → V → Hp → VK → Prop
noncomputable def OpR (X : Cx) (f : Value → Value → Sem Value) (r : R2) : Prop :=
  ∀ (pins : List (Addr × Obj)) (s : Shared) (σ : St) (H : Hp) (x y : V) (v u : Value) (Q : VK), Inv X pins σ H s → RelV x v → RelV y u → r x y H Q →
    wpAny (model X.prog X.w) X.A (f v u) (EP X pins σ Q) X.xe s
noncomputable def UnR (X : Cx) (f : Value → Sem Value) (r : V → Hp → VK → Prop) : Prop :=
  ∀ (pins : List (Addr × Obj)) (s : Shared) (σ : St) (H : Hp) (x : V) (v : Value) (Q : VK), Inv X pins σ H s → RelV x v → r x H Q →
    wpAny (model X.prog X.w) X.A (f v) (EP X pins σ Q) X.xe s
noncomputable def CallR (X : Cx) (f : Value) (r : List V → Hp → VK → Prop) : Prop :=
  ∀ (pins : List (Addr × Obj)) (s : Shared) (σ : St) (H : Hp) (xs : List V) (us : List Value) (Q : VK), Inv X pins σ H s → Vals xs us → r xs H Q →
    wpAny (model X.prog X.w) X.A (call f us) (EP X pins σ Q) X.xe s
noncomputable def tOp (r : R2) (ta tb : TE) : TE := fun σ H Q => ta σ H fun x H1 => tb σ H1 fun y H2 => r x y H2 Q
noncomputable def tUn (r : V → Hp → VK → Prop) (ta : TE) : TE := fun σ H Q => ta σ H fun x H1 => r x H1 Q
inductive rI (C : Int → Int → Prop) (g : Int → Int → V) (x y : V) (H : Hp) (Q : VK) : Prop
  | mk (i j : Int) (ex : x = .int i) (ey : y = .int j) (c : C i j) (q : Q (g i j) H) : rI C g x y H Q
inductive rI0 (g : Int → Int → V) (x y : V) (H : Hp) (Q : VK) : Prop
  | mk (i j : Int) (ex : x = .int i) (ey : y = .int j) (q : Q (g i j) H) : rI0 g x y H Q
inductive rU (g : Int → V) (x : V) (H : Hp) (Q : VK) : Prop
  | mk (i : Int) (ex : x = .int i) (q : Q (g i) H) : rU g x H Q
section
variable {X : Cx} {a b c : Expr} {ta tb tc : TE} {pos : Pos}
theorem binT (ha : PE X a ta) (hb : PE X b tb) {pins : List (Addr × Obj)} {s : Shared} {σ : St} {H : Hp} {R : V → V → Hp → Prop} (I : Inv X pins σ H s)
    (h : ta σ H fun x H1 => tb σ H1 fun y H2 => R x y H2) {Q : Value → Shared → Prop} {f : Value → Value → Sem Value}
    (hf : ∀ v u s2 x y H2, Inv X pins σ H2 s2 → RelV x v → RelV y u → R x y H2 → wpAny (model X.prog X.w) X.A (f v u) Q X.xe s2) :
    wpAny (model X.prog X.w) X.A (eval a X.env) (fun v s₁ => wpAny (model X.prog X.w) X.A (eval b X.env) (fun u s₂ => wpAny (model X.prog X.w) X.A (f v u) Q X.xe s₂) X.xe s₁) X.xe s := by
  refine thn (ha pins s σ H _ I h) fun v s1 ⟨x, H1, I1, r1, q1⟩ => ?_
  refine thn (hb pins s1 σ H1 _ I1 q1) fun u s2 ⟨y, H2, I2, r2, q2⟩ => ?_
  exact hf v u s2 x y H2 I2 r1 r2 q2
theorem pe_op {op : Operator} {r : R2} (ho : OpR X (binaryOp op) r) (ha : PE X a ta) (hb : PE X b tb) : PE X (.BinOp a op b pos) (tOp r ta tb) := by
  intro pins s σ H Q I h
  exact wpAny_BinOp (binT ha hb I h fun v u s2 x y H2 I2 rx ry q => ho pins s2 σ H2 x y v u Q I2 rx ry q)
theorem pe_un {op : UnaryOp} {r : V → Hp → VK → Prop} (ho : UnR X (unaryOp op) r) (ha : PE X a ta) : PE X (.UnaryOp op a pos) (tUn r ta) := by
  intro pins s σ H Q I h
  exact UnaryOp_ (thn (ha pins s σ H _ I h) fun v s1 ⟨x, H1, I1, r1, q1⟩ => ho pins s1 σ H1 x v Q I1 r1 q1)
theorem opI {f : Value → Value → Sem Value} {C : Int → Int → Prop} {g : Int → Int → Int}
    (rule : ∀ (i j : Int) (t u : Tok) (s : Shared) (Q : Value → Shared → Prop) (E : Value → Shared → Prop), C i j → Q (.int (g i j) s.toks) { s with toks := s.toks + 1 } → wpAny (model X.prog X.w) X.A (f (.int i t) (.int j u)) Q E s) :
    OpR X f (rI C fun i j => .int (g i j)) := by
  intro pins s σ H x y v u Q I rx ry h
  obtain ⟨i, j, rfl, rfl, hc, q⟩ := h
  obtain ⟨t, rfl⟩ := rx
  obtain ⟨t', rfl⟩ := ry
  exact rule i j t t' s _ _ hc ⟨.int (g i j), H, I.tok _, ⟨_, rfl⟩, q⟩
theorem opI0 {f : Value → Value → Sem Value} {g : Int → Int → Int}
    (rule : ∀ (i j : Int) (t u : Tok) (s : Shared) (Q : Value → Shared → Prop) (E : Value → Shared → Prop), Q (.int (g i j) s.toks) { s with toks := s.toks + 1 } → wpAny (model X.prog X.w) X.A (f (.int i t) (.int j u)) Q E s) :
    OpR X f (rI0 fun i j => .int (g i j)) := by
  intro pins s σ H x y v u Q I rx ry h
  obtain ⟨i, j, rfl, rfl, q⟩ := h
  obtain ⟨t, rfl⟩ := rx
  obtain ⟨t', rfl⟩ := ry
  exact rule i j t t' s _ _ ⟨.int (g i j), H, I.tok _, ⟨_, rfl⟩, q⟩
theorem opB0 {f : Value → Value → Sem Value} {g : Int → Int → Bool}
    (rule : ∀ (i j : Int) (t u : Tok) (s : Shared) (Q : Value → Shared → Prop) (E : Value → Shared → Prop), Q (.bool (g i j)) s → wpAny (model X.prog X.w) X.A (f (.int i t) (.int j u)) Q E s) :
    OpR X f (rI0 fun i j => .bl (g i j)) := by
  intro pins s σ H x y v u Q I rx ry h
  obtain ⟨i, j, rfl, rfl, q⟩ := h
  obtain ⟨t, rfl⟩ := rx
  obtain ⟨t', rfl⟩ := ry
  exact rule i j t t' s _ _ ⟨.bl (g i j), H, I, rfl, q⟩
noncomputable def CDiv (i j : Int) : Prop := 0 < j ∧ j < 1073741824
noncomputable def CMul (i j : Int) : Prop := (-(2 ^ 64) < i ∧ i < 2 ^ 64) ∨ (-(2 ^ 64) < j ∧ j < 2 ^ 64)
theorem CMul.ok {i j : Int} (h : CMul i j) : IntMulOk i j := by
  rcases h with ⟨h1, h2⟩ | ⟨h1, h2⟩
  · exact .of_left (intBits_le_64 h1 h2)
  · exact .of_right (intBits_le_64 h1 h2)
theorem op_add : OpR X (binaryOp .Add) (rI0 fun i j => .int (i + j)) := opI0 fun _ _ _ _ _ _ _ q => add_int q
theorem op_sub : OpR X (binaryOp .Sub) (rI0 fun i j => .int (i - j)) := opI0 fun _ _ _ _ _ _ _ q => sub_int q
theorem op_mul : OpR X (binaryOp .Mult) (rI CMul fun i j => .int (i * j)) := opI fun _ _ _ _ _ _ _ hc q => mul_int q hc.ok
theorem op_fdiv : OpR X (binaryOp .FloorDiv) (rI CDiv fun i j => .int (i / j)) := opI fun i j _ _ _ _ _ hc q => by
  have h1 : (0 : Int) < j := hc.1
  have h2 : j < 1073741824 := hc.2
  exact floordiv_int (by omega) (by rw [Int.fdiv_eq_ediv_of_nonneg i (by omega)]; exact q) (.inl (PyProof.noPylong_small (by omega)))
theorem op_mod : OpR X (binaryOp .Mod) (rI (fun _ j => 0 < j) fun i j => .int (i % j)) := opI fun i j _ _ _ _ _ hc q => by
  have h1 : (0 : Int) < j := hc
  exact mod_int' (by omega) (by rw [Int.fmod_eq_emod_of_nonneg i (by omega)]; exact q)
theorem unI {f : Value → Sem Value} {g : Int → Int}
    (rule : ∀ (i : Int) (t : Tok) (s : Shared) (Q : Value → Shared → Prop) (E : Value → Shared → Prop), Q (.int (g i) s.toks) { s with toks := s.toks + 1 } → wpAny (model X.prog X.w) X.A (f (.int i t)) Q E s) :
    UnR X f (rU fun i => .int (g i)) := by
  intro pins s σ H x v Q I rx h
  obtain ⟨i, rfl, q⟩ := h
  obtain ⟨t, rfl⟩ := rx
  exact rule i t s _ _ ⟨.int (g i), H, I.tok _, ⟨_, rfl⟩, q⟩
theorem un_neg : UnR X (unaryOp .USub) (rU fun i => .int (-i)) := unI fun _ _ _ _ _ q => neg_int q
end
noncomputable def scal : V → V → Bool
  | .non, .non => true | .non, .int _ => true | .int _, .non => true | .non, .bl _ => true | .bl _, .non => true | .non, .str _ => true | .str _, .non => true
  | .int _, .int _ => true | .bl _, .bl _ => true | .str _, .str _ => true | .byt _, .byt _ => true
  | .int _, .str _ => true | .str _, .int _ => true | .bl _, .str _ => true | .str _, .bl _ => true
  | _, _ => false
inductive rEq (x y : V) (H : Hp) (Q : VK) : Prop
  | mk (s : scal x y = true) (q : Q (.bl (decide (x = y))) H) : rEq x y H Q
inductive rNe (x y : V) (H : Hp) (Q : VK) : Prop
  | mk (s : scal x y = true) (q : Q (.bl (!decide (x = y))) H) : rNe x y H Q
theorem dec_int {i j : Int} : decide (V.int i = V.int j) = (i == j) := by
  rw [Bool.eq_iff_iff]
  simp
theorem dec_bl {i j : Bool} : decide (V.bl i = V.bl j) = (i == j) := by
  rw [Bool.eq_iff_iff]
  simp
theorem dec_str {i j : Str} : decide (V.str i = V.str j) = (i == j) := by
  rw [Bool.eq_iff_iff]
  simp
theorem dec_byt {i j : Array UInt8} : decide (V.byt i = V.byt j) = (i.toList == j.toList) := by
  rw [Bool.eq_iff_iff]
  cases i
  cases j
  simp
section
variable {X : Cx} {a b c : Expr} {ta tb tc : TE} {pos : Pos}
theorem fin_bl {pins : List (Addr × Obj)} {σ : St} {H : Hp} {s : Shared} {Q : VK} {k k' : Bool} (I : Inv X pins σ H s) (q : Q (.bl k) H) (e : k = k') : EP X pins σ Q (.bool k') s := by
  subst e
  exact ⟨.bl k, H, I, rfl, q⟩
theorem op_eq : OpR X (compareOp .Eq) rEq := by
  intro pins s σ H x y v u Q I rx ry h
  obtain ⟨hs, q⟩ := h
  cases x with
  | non =>
    cases rx
    cases y with
    | non => cases ry; exact PySem.EqNone.eq_none_none (fin_bl I q (by simp))
    | bl j => cases ry; exact PySem.EqNone.eq_none_bool (fin_bl I q (by simp))
    | int j => obtain ⟨t', rfl⟩ := ry; exact PySem.EqNone.eq_none_int (fin_bl I q (by simp))
    | str j => obtain ⟨t', rfl⟩ := ry; exact PySem.EqNone.eq_none_str (fin_bl I q (by simp))
    | _ => exact absurd (show false = true from hs) Bool.false_ne_true
  | bl i =>
    cases rx
    cases y with
    | non => cases ry; exact PySem.EqNone.eq_bool_none (fin_bl I q (by simp))
    | bl j => cases ry; exact eq_bool (fin_bl I q dec_bl)
    | str j => obtain ⟨t', rfl⟩ := ry; exact PySem.EqMixed.eq_bool_str (fin_bl I q (by simp))
    | _ => exact absurd (show false = true from hs) Bool.false_ne_true
  | int i =>
    obtain ⟨t, rfl⟩ := rx
    cases y with
    | non => cases ry; exact PySem.EqNone.eq_int_none (fin_bl I q (by simp))
    | int j => obtain ⟨t', rfl⟩ := ry; exact eq_int (fin_bl I q dec_int)
    | str j => obtain ⟨t', rfl⟩ := ry; exact PySem.EqMixed.eq_int_str (fin_bl I q (by simp))
    | _ => exact absurd (show false = true from hs) Bool.false_ne_true
  | str i =>
    obtain ⟨t, rfl⟩ := rx
    cases y with
    | non => cases ry; exact PySem.EqNone.eq_str_none (fin_bl I q (by simp))
    | bl j => cases ry; exact PySem.EqMixed.eq_str_bool (fin_bl I q (by simp))
    | int j => obtain ⟨t', rfl⟩ := ry; exact PySem.EqMixed.eq_str_int (fin_bl I q (by simp))
    | str j => obtain ⟨t', rfl⟩ := ry; exact eq_str (fin_bl I q dec_str)
    | _ => exact absurd (show false = true from hs) Bool.false_ne_true
  | byt i =>
    obtain ⟨t, rfl⟩ := rx
    cases y with
    | byt j => obtain ⟨t', rfl⟩ := ry; exact PySem.W.eq_bytes (fin_bl I q dec_byt)
    | _ => exact absurd (show false = true from hs) Bool.false_ne_true
  | _ => cases y <;> exact absurd (show false = true from hs) Bool.false_ne_true
theorem op_ne : OpR X (compareOp .NotEq) rNe := by
  intro pins s σ H x y v u Q I rx ry h
  obtain ⟨hs, q⟩ := h
  cases x with
  | non =>
    cases rx
    cases y with
    | non => cases ry; exact PySem.EqNone.ne_none_none (fin_bl I q (by simp))
    | bl j => cases ry; exact PySem.EqNone.ne_none_bool (fin_bl I q (by simp))
    | int j => obtain ⟨t', rfl⟩ := ry; exact PySem.EqNone.ne_none_int (fin_bl I q (by simp))
    | str j => obtain ⟨t', rfl⟩ := ry; exact PySem.EqNone.ne_none_str (fin_bl I q (by simp))
    | _ => exact absurd (show false = true from hs) Bool.false_ne_true
  | bl i =>
    cases rx
    cases y with
    | non => cases ry; exact PySem.EqNone.ne_bool_none (fin_bl I q (by simp))
    | bl j => cases ry; exact ne_bool (fin_bl I q (congrArg not dec_bl))
    | str j => obtain ⟨t', rfl⟩ := ry; exact PySem.EqMixed.ne_bool_str (fin_bl I q (by simp))
    | _ => exact absurd (show false = true from hs) Bool.false_ne_true
  | int i =>
    obtain ⟨t, rfl⟩ := rx
    cases y with
    | non => cases ry; exact PySem.EqNone.ne_int_none (fin_bl I q (by simp))
    | int j => obtain ⟨t', rfl⟩ := ry; exact ne_int (fin_bl I q (congrArg not dec_int))
    | str j => obtain ⟨t', rfl⟩ := ry; exact PySem.EqMixed.ne_int_str (fin_bl I q (by simp))
    | _ => exact absurd (show false = true from hs) Bool.false_ne_true
  | str i =>
    obtain ⟨t, rfl⟩ := rx
    cases y with
    | non => cases ry; exact PySem.EqNone.ne_str_none (fin_bl I q (by simp))
    | bl j => cases ry; exact PySem.EqMixed.ne_str_bool (fin_bl I q (by simp))
    | int j => obtain ⟨t', rfl⟩ := ry; exact PySem.EqMixed.ne_str_int (fin_bl I q (by simp))
    | str j => obtain ⟨t', rfl⟩ := ry; exact ne_str (fin_bl I q (congrArg not dec_str))
    | _ => exact absurd (show false = true from hs) Bool.false_ne_true
  | byt i =>
    obtain ⟨t, rfl⟩ := rx
    cases y with
    | byt j => obtain ⟨t', rfl⟩ := ry; exact PySem.W.ne_bytes (fin_bl I q (congrArg not dec_byt))
    | _ => exact absurd (show false = true from hs) Bool.false_ne_true
  | _ => cases y <;> exact absurd (show false = true from hs) Bool.false_ne_true
theorem op_lt : OpR X (compareOp .Lt) (rI0 fun i j => .bl (decide (i < j))) := opB0 fun _ _ _ _ _ _ _ q => lt_int q
theorem op_le : OpR X (compareOp .LtE) (rI0 fun i j => .bl (decide (i ≤ j))) := opB0 fun _ _ _ _ _ _ _ q => le_int q
theorem op_gt : OpR X (compareOp .Gt) (rI0 fun i j => .bl (decide (j < i))) := opB0 fun _ _ _ _ _ _ _ q => gt_int q
theorem op_notN : OpR X (compareOp .IsNot) (fun x y H Q => y = .non ∧ Q (.bl (!decide (x = .non))) H) := by
  intro pins s σ H x y v u Q I rx ry h
  obtain ⟨rfl, q⟩ := h
  cases ry
  refine isnot_none_gen (fin_bl I q ?_)
  cases x <;> first
    | (cases rx; rfl)
    | (obtain ⟨t, rfl⟩ := rx; rfl)
theorem nomark (b : Expr) {op : CmpOp} (h : op ≠ .In := by decide) (h2 : op ≠ .NotIn := by decide) : behindInMarks op b = false := by
  have e1 : (op == CmpOp.In) = false := by cases op <;> first | rfl | exact absurd rfl h
  have e2 : (op == CmpOp.NotIn) = false := by cases op <;> first | rfl | exact absurd rfl h2
  cases b <;> simp [behindInMarks, e1, e2]
theorem pe_cmpR {op : CmpOp} {r : R2} (ho : OpR X (compareOp op) r) (ha : PE X a ta) (hb : PE X b tb) (hm : behindInMarks op b = false) : PE X (.Compare a [op] [b] pos) (tOp r ta tb) := by
  intro pins s σ H Q I h
  exact wpAny_Compare1 (binT ha hb I h fun v u s2 x y H2 I2 rx ry q => ho pins s2 σ H2 x y v u Q I2 rx ry q) hm
noncomputable def tTest (t : TE) : TT := fun σ H Q => t σ H (isBl Q)
theorem pt_cmpR {op : CmpOp} {r : R2} (ho : OpR X (compareOp op) r) (ha : PE X a ta) (hb : PE X b tb) (hm : behindInMarks op b = false) : PT X (.Compare a [op] [b] pos) (tTest (tOp r ta tb)) := by
  intro pins s σ H Q I h
  refine wpAny_isTrue_Compare1 (thn (ha pins s σ H _ I h) fun v s1 ⟨x, H1, I1, r1, q1⟩ => thn (hb pins s1 σ H1 _ I1 q1) fun u s2 ⟨y, H2, I2, r2, q2⟩ =>
    thn (ho pins s2 σ H2 x y v u _ I2 r1 r2 q2) fun c s3 ⟨z, H3, I3, r3, k, e, q3⟩ => ?_) hm
  subst e
  cases r3
  exact wpAny_truthy_bool ⟨H3, I3, q3⟩
noncomputable def tChain (r r' : R2) (ta tb tc : TE) : TE := fun σ H Q => ta σ H fun x H1 => tb σ H1 fun y H2 => r x y H2 fun z H3 => ∃ k, z = .bl k ∧
  (if k = true then tc σ H3 fun w' H4 => r' y w' H4 Q else Q (.bl false) H3)
theorem pe_chain {op op' : CmpOp} {r r' : R2} (ho : OpR X (compareOp op) r) (ho' : OpR X (compareOp op') r') (ha : PE X a ta) (hb : PE X b tb) (hc : PE X c tc)
    (hm : lastMarks [op, op'] [b, c] = false := by with_unfolding_all rfl) : PE X (.Compare a [op, op'] [b, c] pos) (tChain r r' ta tb tc) := by
  intro pins s σ H Q I h
  refine Compare_chain (thn (ha pins s σ H _ I h) fun v s1 ⟨x, H1, I1, r1, q1⟩ => chain_link (thn (hb pins s1 σ H1 _ I1 q1) fun u s2 ⟨y, H2, I2, r2, q2⟩ =>
    thn (ho pins s2 σ H2 x y v u _ I2 r1 r2 q2) fun d s3 ⟨z, H3, I3, r3, k, e, q3⟩ => ?_)) hm
  subst e
  cases r3
  refine wpAny_truthy_bool ?_
  cases k with
  | false => exact ite_ff ⟨.bl false, H3, I3, rfl, q3⟩
  | true => exact ite_tt (chain_last (thn (hc pins s3 σ H3 _ I3 q3) fun w' s4 ⟨z', H4, I4, r4, q4⟩ => ho' pins s4 σ H4 y z' u w' Q I4 r2 r4 q4))
theorem pt_chain {op op' : CmpOp} {r r' : R2} (ho : OpR X (compareOp op) r) (ho' : OpR X (compareOp op') r') (ha : PE X a ta) (hb : PE X b tb) (hc : PE X c tc)
    (hm : lastMarks [op, op'] [b, c] = false := by with_unfolding_all rfl) : PT X (.Compare a [op, op'] [b, c] pos) (tTest (tChain r r' ta tb tc)) := by
  intro pins s σ H Q I h
  refine isTrue_chain (thn (ha pins s σ H _ I h) fun v s1 ⟨x, H1, I1, r1, q1⟩ => test_link (thn (hb pins s1 σ H1 _ I1 q1) fun u s2 ⟨y, H2, I2, r2, q2⟩ =>
    thn (ho pins s2 σ H2 x y v u _ I2 r1 r2 q2) fun d s3 ⟨z, H3, I3, r3, k, e, q3⟩ => ?_)) hm
  subst e
  cases r3
  refine wpAny_truthy_bool ?_
  cases k with
  | false =>
    obtain ⟨k', e', q'⟩ := q3
    cases e'
    exact ite_ff ⟨H3, I3, q'⟩
  | true =>
    refine ite_tt (test_last (thn (hc pins s3 σ H3 _ I3 q3) fun w' s4 ⟨z', H4, I4, r4, q4⟩ => thn (ho' pins s4 σ H4 y z' u w' _ I4 r2 r4 q4) fun d' s5 ⟨z2, H5, I5, r5, k2, e2, q5⟩ => ?_))
    subst e2
    cases r5
    exact wpAny_truthy_bool ⟨H5, I5, q5⟩
theorem line63 : (sizeLine : Nat) < 2 ^ 63 := by rw [sizeLine_eq]; decide
theorem op_add_str : OpR X (binaryOp .Add) (fun x y H Q => ∃ i j, x = .str i ∧ y = .str j ∧ i.length + j.length ≤ sizeLine ∧ Q (.str (i ++ j)) H) := by
  intro pins s σ H x y v u Q I rx ry h
  obtain ⟨i, j, rfl, rfl, hz, q⟩ := h
  obtain ⟨t, rfl⟩ := rx
  obtain ⟨t', rfl⟩ := ry
  exact add_str (fun t' tk => ⟨.str (i ++ j), H, I.tok _, ⟨_, rfl⟩, q⟩) hz
theorem vals1 {x : V} {us : List Value} (r : Vals [x] us) : ∃ u, us = [u] ∧ RelV x u := by
  cases r with
  | cons r1 r2 => cases r2; exact ⟨_, rfl, r1⟩
theorem vals2 {x y : V} {us : List Value} (r : Vals [x, y] us) : ∃ u w', us = [u, w'] ∧ RelV x u ∧ RelV y w' := by
  cases r with
  | cons r1 r2 =>
    cases r2 with
    | cons r3 r4 => cases r4; exact ⟨_, _, rfl, r1, r3⟩
theorem call_int1 : CallR X (.type "int") (fun xs H Q => (∃ i, xs = [.int i] ∧ Q (.int i) H) ∨ ∃ k, xs = [.bl k] ∧ Q (.int (if k then 1 else 0)) H) := by
  intro pins s σ H xs us Q I r h
  rcases h with ⟨i, rfl, q⟩ | ⟨k, rfl, q⟩
  · obtain ⟨u, rfl, t, rfl⟩ := vals1 r
    exact call_int_int ⟨.int i, H, I, ⟨_, rfl⟩, q⟩
  · obtain ⟨u, rfl, r1⟩ := vals1 r
    cases r1
    exact call_int_bool ⟨.int (if k then 1 else 0), H, I.tok _, ⟨_, rfl⟩, q⟩
end
end L2
namespace L2
open PySem PySem.Spec PyProof.Rows
structure ObjM (h : Heap) (x dx C : Addr) (mA : Str → Option Value) : Prop where
  obj : h.get? x = some (PySem.W.instObj C dx)
  ns : h.Ns1 dx mA
  ne : dx ≠ x
theorem lookIn_ns {h : Heap} {dx : Addr} {mA : Str → Option Value} (n : h.Ns1 dx mA) : ∃ od, h.get? dx = some od ∧ ∀ name, PySem.W.lookIn name od = some (mA name) := by
  obtain ⟨o, es, ep, ho, hd, hk, _, hm⟩ := n
  refine ⟨o, ho, fun name => ?_⟩
  have e := hm name
  unfold nsFind findBy at e
  rw [← Array.find?_toList] at e
  unfold PySem.W.lookIn
  rw [hd]
  dsimp only
  split
  · rename_i y q
    rw [q] at e
    exact congrArg some e
  · rename_i q
    rw [q] at e
    have a : es.toList.any (·.refKey) = false := by
      rw [List.any_eq_false]
      intro y hy
      obtain ⟨z, t, hkey⟩ := hk y (Array.mem_toList_iff.mp hy)
      simp [DictEntry.refKey, hkey]
    have a' : ¬ es.toList.any (·.refKey) = true := by rw [a]; exact Bool.false_ne_true
    rw [if_neg a']
    exact congrArg some e
theorem ObjM.look {h : Heap} {x dx C : Addr} {mA : Str → Option Value} (I : ObjM h x dx C mA) : ∃ od, PySem.W.InstAt h x (PySem.W.instObj C dx) C (some od) ∧ ∀ name, PySem.W.lookIn name od = some (mA name) :=
  let ⟨od, ho, hl⟩ := lookIn_ns I.ns
  ⟨od, ⟨I.obj, rfl, rfl, ho⟩, hl⟩
section
variable {prog : Program} {w : World} {A : Around} {E : Value → Shared → Prop} {s : Shared} {K : PySem.W.Frag} {x dx C f : Addr} {mA : Str → Option Value} {name : Str} {v : Value}
end
theorem RelO.some_of {v : V} {o : Option Value} (r : RelO (some v) o) : ∃ u, o = some u ∧ RelV v u := by
  cases o with
  | none => exact (show False from r).elim
  | some u => exact ⟨u, rfl, r⟩
theorem handed_of {v : V} {u : Value} (r : RelV v u) : PySem.W.handedIn u = true := by
  cases v with
  | non => cases (show u = Value.none from r); rfl
  | bl b => cases (show u = Value.bool b from r); rfl
  | int i => obtain ⟨t, e⟩ := (show ∃ t, u = Value.int i t from r); cases e; rfl
  | str x => obtain ⟨t, e⟩ := (show ∃ t, u = Value.str x t from r); cases e; rfl
  | byt b => obtain ⟨t, e⟩ := (show ∃ t, u = Value.bytes b t from r); cases e; rfl
  | flt b => obtain ⟨t, e⟩ := (show ∃ t, u = Value.float b t from r); cases e; rfl
  | ref a => cases (show u = Value.ref a from r); rfl
  | ty n => cases (show u = Value.type n from r); rfl
section
variable {P : Program} {w : World} {H H' : Hp} {h h' : Heap} {a C dx : Addr} {fs fs' : List (Str × V)}
theorem ins_get (hok : HOk P w H h) (e : H a = some (.ins C dx fs)) : ∃ mA, ObjM h a dx C mA ∧ (∀ f, RelO (fs.lookup f) (mA f)) ∧ PySem.Within mA (fs.map (·.1)) ∧ fs.length ≤ 1000 ∧ H dx = some (.own a) := by
  obtain ⟨d, z, ne, ob, mA, n, r, q⟩ := (show ObjOk P w H h a (.ins C dx fs) from hok a _ e)
  exact ⟨mA, ⟨ob, n, ne⟩, r, q, z, d⟩
end
structure Cls (K : PySem.W.Frag) (C : Addr) : Prop where
  pg : PySem.W.plainGet K C Str.empty = true
  hd : PySem.W.hasDictIn K C = true
  po : PySem.W.plainOver K C = true
  sa : PySem.W.findIn K (.ref C) "__setattr__" = some (some (.builtin "object.__setattr__"))
theorem Cls.get {K : PySem.W.Frag} {C : Addr} (c : Cls K C) (f : Str) : PySem.W.plainGet K C f = true := c.pg
section
variable {X : Cx} {pins : List (Addr × Obj)} {σ : St} {H : Hp} {s : Shared} {a C dx : Addr} {fs : List (Str × V)} {f : Str} {v : V} {A : Around} {E : Value → Shared → Prop}
theorem attr_of {prog : Program} {w : World} {env : Env} {e : Expr} {f : Str} {pos : Pos} {s : Shared} {Q : Value → Shared → Prop} (hb : attributeBase e f env (eval e env) = eval e env)
    (h : wpAny (model prog w) A (eval e env) (fun o s₁ => wpAny (model prog w) A (getAttr o f true) Q E s₁) E s) : wpAny (model prog w) A (eval (.Attribute e f pos) env) Q E s :=
  Attribute_any_ h (by rw [arm_eval_Attribute, hb])
end
section
variable {X : Cx} {o e value : Expr} {f : Str} {pos pos' tpos : Pos} {ta tv : TE}
end
section
variable {X : Cx} {pins : List (Addr × Obj)} {σ : St} {H : Hp} {s : Shared} {A : Around} {E : Value → Shared → Prop} {Q : Value → Shared → Prop} {c : Value} {b : Bool}
inductive TyOf (K : PySem.W.Frag) (H : Hp) : V → Value → Prop where
  | non : TyOf K H .non (.type "NoneType")
  | bl (x : Bool) : TyOf K H (.bl x) (.type "bool")
  | int (i : Int) : TyOf K H (.int i) (.type "int")
  | str (x : Str) : TyOf K H (.str x) (.type "str")
  | flt (x : UInt64) : TyOf K H (.flt x) (.type "float")
  | lst {a : Addr} {xs : List V} (e : H a = some (.lst xs)) : TyOf K H (.ref a) (.type "list")
  | frz {a : Addr} {o : Obj} {xs : List V} (e : H a = some (.frz o (.lst xs))) : TyOf K H (.ref a) (.type "list")
  | tup {a : Addr} {xs : List V} (e : H a = some (.tup xs)) : TyOf K H (.ref a) (.type "tuple")
  | dK {a : Addr} {kvs : List (Key × V)} (e : H a = some (.dK kvs)) : TyOf K H (.ref a) (.type "dict")
  | dT {a : Addr} {kvs : List (List Key × V)} (e : H a = some (.dT kvs)) : TyOf K H (.ref a) (.type "dict")
  | ins {a C dx : Addr} {fs : List (Str × V)} (e : H a = some (.ins C dx fs)) (cl : Cls K C) (ha : PySem.W.findIn K (.ref C) "__class__" = some (some (.builtin "object.__class__")))
      (hn : PySem.W.specialIn K (.builtin "object.__class__") "__get__" = some (some (.builtin "getset_descriptor.__get__"))) (htk : PySem.W.takesIn K (.builtin "object.__class__") = some true)
      (hm : PySem.W.mroIn K C (.type "object") = some true) : TyOf K H (.ref a) (.ref C)
theorem isinst_ok {x : V} {u t : Value} (I : Inv X pins σ H s) (rx : RelV x u) (ty : TyOf X.K H x t) (e : PySem.W.kitOne X.K t c = some b) (h : ∀ tk, Q (.bool b) { s with toks := tk }) :
    wpAny (model X.prog X.w) A (call (.builtin "isinstance") [u, c]) Q E s := by
  cases ty with
  | non => cases (show u = Value.none from rx); exact PySem.W.kia_one PySem.W.kitx_none I.kIn True.intro e (fun z => nomatch z) h
  | bl y => cases (show u = Value.bool y from rx); exact PySem.W.kia_one PySem.W.kitx_bool I.kIn True.intro e (fun z => nomatch z) h
  | int i => obtain ⟨t, q⟩ := (show ∃ t, u = Value.int i t from rx); cases q; exact PySem.W.kia_one PySem.W.kitx_int I.kIn True.intro e (fun z => nomatch z) h
  | str y => obtain ⟨t, q⟩ := (show ∃ t, u = Value.str y t from rx); cases q; exact PySem.W.kia_one PySem.W.kitx_str I.kIn True.intro e (fun z => nomatch z) h
  | flt y => obtain ⟨t, q⟩ := (show ∃ t, u = Value.float y t from rx); cases q; exact PySem.W.kia_one PySem.W.kitx_float I.kIn True.intro e (fun z => nomatch z) h
  | @lst a xs ea =>
    cases (show u = Value.ref a from rx)
    obtain ⟨_, _, n, _, h1⟩ := (show ObjOk X.prog X.w H s.heap a (.lst xs) from I.hok a _ ea)
    exact PySem.W.kia_one PySem.W.kitx_list I.kIn ⟨_, h1, rfl⟩ e (fun z => nomatch z) h
  | @frz a ob xs ea =>
    cases (show u = Value.ref a from rx)
    obtain ⟨_, _, _, n, _, h1⟩ := (show ObjOk X.prog X.w H s.heap a (.frz ob (.lst xs)) from I.hok a _ ea)
    exact PySem.W.kia_one PySem.W.kitx_list I.kIn ⟨_, h1, rfl⟩ e (fun z => nomatch z) h
  | @tup a xs ea =>
    cases (show u = Value.ref a from rx)
    obtain ⟨_, _, _, p⟩ := (show ObjOk X.prog X.w H s.heap a (.tup xs) from I.hok a _ ea)
    obtain ⟨o, h1, h2, _⟩ := p
    exact PySem.W.kia_one PySem.W.kitx_tuple I.kIn ⟨o, h1, h2⟩ e (fun z => nomatch z) h
  | @dK a kvs ea =>
    cases (show u = Value.ref a from rx)
    obtain ⟨_, _, vs, _, p⟩ := (show ObjOk X.prog X.w H s.heap a (.dK kvs) from I.hok a _ ea)
    obtain ⟨o, es, ep, h1, h2, _⟩ := p
    exact PySem.W.kia_one PySem.W.kitx_dict I.kIn ⟨o, h1, h2.1⟩ e (fun z => nomatch z) h
  | @dT a kvs ea =>
    cases (show u = Value.ref a from rx)
    obtain ⟨_, _, xs, _, o, es, ep, h1, h2, _⟩ := (show ObjOk X.prog X.w H s.heap a (.dT kvs) from I.hok a _ ea)
    exact PySem.W.kia_one PySem.W.kitx_dict I.kIn ⟨o, h1, h2.1⟩ e (fun z => nomatch z) h
  | @ins a C dx fs ea cl ha hn htk hm =>
    cases (show u = Value.ref a from rx)
    obtain ⟨mA, O, _⟩ := ins_get I.hok ea
    obtain ⟨od, J, _⟩ := O.look
    exact PySem.W.kia_one (PySem.W.kitx_own (cl.get _) cl.hd ha hn htk hm) I.kIn J e (fun z => nomatch z) h
end
end L2
namespace L2
open PySem PySem.Spec PyProof.Rows
structure Room (k : Nat) (A : Around) : Prop where
  hd : A.handled = none
  dp : A.depth + 3 * k + 5 < recursionLimit
  un : A.units + 16 * k + 200 < cLine
theorem Room.mono {j k : Nat} {A : Around} (r : Room k A) (h : j ≤ k) : Room j A := ⟨r.hd, by have := r.dp; omega, by have := r.un; omega⟩
theorem Room.deeper {k : Nat} {A : Around} (r : Room (k + 1) A) (env : Env) : Room k (A.deeper env) :=
  ⟨r.hd, by have := r.dp; show A.depth + 1 + 3 * k + 5 < _; omega, by have := r.un; show A.units + 3 + 16 * k + 200 < _; omega⟩
theorem make_depth {A : Around} {C : Addr} {us : List Value} {kw : List (Str × Value)} : (A.under (.builtin "type.__call__" ⟨.ref C :: us, kw⟩)).depth = A.depth + 1 := by
  first | rfl | simp [Around.under, Code.weight, Code.isCreation, Code.isGuard, Code.isCaller, Code.frames, Code.isFrame, guardIds]
theorem make_units {A : Around} {C : Addr} {us : List Value} {kw : List (Str × Value)} : (A.under (.builtin "type.__call__" ⟨.ref C :: us, kw⟩)).units = A.units + 1 := by
  first | rfl | simp [Around.under, Code.cUnits, Code.frames, Code.isFrame]
theorem Room.make {k : Nat} {A : Around} (r : Room (k + 1) A) (C : Addr) (us : List Value) (kw : List (Str × Value)) : Room k (A.under (.builtin "type.__call__" ⟨.ref C :: us, kw⟩)) :=
  ⟨r.hd, by have := r.dp; rw [make_depth]; omega, by have := r.un; rw [make_units]; omega⟩
theorem Room.depth {k : Nat} {A : Around} (r : Room k A) : A.depth < recursionLimit := by have := r.dp; omega
theorem Room.units {k : Nat} {A : Around} (r : Room k A) : A.units + 64 < cLine := by have := r.un; omega
noncomputable def tNil : TA := fun _ H Q => Q [] H
noncomputable def tCons (ta : TE) (tr : TA) : TA := fun σ H Q => ta σ H fun x H1 => tr σ H1 fun xs H2 => Q (x :: xs) H2
section
variable {X : Cx} {e : Expr} {es : List Expr} {te : TE} {t : TA} {pos : Pos}
theorem pa_nil : PA X [] tNil := fun _ _ _ _ H Q I h => Calls.spliced_nil ⟨[], H, I, .nil, h⟩
theorem pa_cons (ha : PE X e te) (hr : PA X es t) (hs : starEach (e :: es) X.env = (false, eval e X.env) :: starEach es X.env := by rfl) : PA X (e :: es) (tCons te t) := by
  intro pos pins s σ H Q I h
  rw [hs]
  show wpAny _ _ (spliced ((false, eval e X.env) :: backTo pos (starEach es X.env))) _ _ s
  refine Calls.spliced_cons (thn (ha pins s σ H _ I h) fun u s1 ⟨x, H1, I1, r1, q1⟩ => ?_)
  exact thn (hr pos pins s1 σ H1 _ I1 q1) fun us s2 ⟨xs, H2, I2, r2, q2⟩ => ⟨x :: xs, H2, I2, .cons r1 r2, q2⟩
inductive isNew (g : List V → HO) (Q : VK) (xs : List V) (H1 : Hp) : Prop
  | mk (z : xs.length ≤ sizeLine) (q : ∀ p, H1 p = none → Q (.ref p) (upd H1 p (g xs))) : isNew g Q xs H1
noncomputable def tTup (t : TA) : TE := fun σ H Q => t σ H (isNew .tup Q)
noncomputable def tLst (t : TA) : TE := fun σ H Q => t σ H (isNew .lst Q)
theorem pe_tup {x1} (h : PA X es t) : PE X (.Tuple es x1 pos) (tTup t) := by
  intro pins s σ H Q I hq
  refine wpAny_Tuple_spliced (thn (h pos pins s σ H _ I hq) fun us s1 ⟨xs, H1, I1, r, z, q⟩ => ⟨by rw [← r.length]; exact z, ?_⟩)
  have hf : H1 s1.heap.objs.size = none := I1.hok.fresh (Nat.le_refl _)
  refine ⟨.ref s1.heap.objs.size, upd H1 s1.heap.objs.size (.tup xs), I1.laid (t' := s1.toks) (fun b u e => Heap.get?_push_of_some _ e) (Nat.le_refl _) ?_, rfl, q _ hf⟩
  exact ⟨z, us, r, ⟨_, Heap.get?_push_size _ rfl, rfl, _, rfl⟩⟩
theorem pe_lst (h : PA X es t) : PE X (.List es pos) (tLst t) := by
  intro pins s σ H Q I hq
  refine wpAny_List_spliced (thn (h pos pins s σ H _ I hq) fun us s1 ⟨xs, H1, I1, r, z, q⟩ => ⟨by rw [← r.length]; exact z, ?_⟩)
  have hf : H1 s1.heap.objs.size = none := I1.hok.fresh (Nat.le_refl _)
  refine ⟨.ref s1.heap.objs.size, upd H1 s1.heap.objs.size (.lst xs), I1.laid (t' := s1.toks) (fun b u e => Heap.get?_push_of_some _ e) (Nat.le_refl _) ?_, rfl, q _ hf⟩
  exact ⟨z, us, 0, r, Heap.get?_push_size _ rfl⟩
end
noncomputable abbrev Sp := List V → Hp → VK → XK → Prop
noncomputable abbrev CXT := List Env → Hp → Shared → XK → Value → Shared → Prop
structure Env0 (P : Program) (w : World) (K : PySem.W.Frag) (mg : Str → Option Value) (base : Heap) (A : Around) (outer : List Env) (s : Shared) (H : Hp) : Prop where
  frames : A.frames = some outer
  mod : Mod K mg base
  bs : ∀ b o, base.get? b = some o → s.heap.get? b = some o ∧ H b = none
  bsz : base.objs.size ≤ s.heap.objs.size
  funs : s.heap.FunFrames base outer
  frf : ∀ b ∈ frs outer, H b = none
  hok : HOk P w H s.heap
  bare : AllBare s.gens
noncomputable def CE (outer : List Env) (P : Program) (w : World) (H : Hp) (s : Shared) (Q : VK) (u : Value) (s' : Shared) : Prop :=
  ∃ v H', s'.os = s.os ∧ AllBare s'.gens ∧ Un (frs outer) [] H H' s.heap s'.heap ∧ HOk P w H' s'.heap ∧ RelV v u ∧ Q v H'
noncomputable def CR (CX : CXT) (outer : List Env) (P : Program) (w : World) (H : Hp) (s : Shared) (Q : VK) (E : XK) (r : Result) (s' : Shared) : Prop :=
  match r with
  | .ok (.ret u) => CE outer P w H s Q u s'
  | .ok _ => False
  | .error e => CX outer H s E e s'
structure FnOk (P : Program) (w : World) (K : PySem.W.Frag) (mg : Str → Option Value) (base : Heap) (CX : CXT) (k : Nat) (f : Addr) (fd : FuncData) (ps : List Str) (sp : Sp) : Prop where
  len : ∀ vs H Q E, sp vs H Q E → vs.length = ps.length
  run : ∀ (A : Around) (outer : List Env) (s : Shared) (H : Hp) (args : Args) (us : List Value) (vs : List V) (Q : VK) (E : XK), Room k A → Env0 P w K mg base A outer s H → BindsTo s fd args (ps.zip us) → Vals vs us → sp vs H Q E →
    codeAny (model P w) A (.call (.ref f) args) (CR CX outer P w H s Q E) s
theorem Env0.make {P : Program} {w : World} {K : PySem.W.Frag} {mg : Str → Option Value} {base : Heap} {A : Around} {outer : List Env} {s : Shared} {H : Hp} (e : Env0 P w K mg base A outer s H) (C : Addr) (us : List Value) (kw : List (Str × Value)) :
    Env0 P w K mg base (A.under (.builtin "type.__call__" ⟨.ref C :: us, kw⟩)) outer s H := ⟨by first | exact e.frames | (simpa [Around.under, Code.envs, Code.isFrame, pushEnvs] using e.frames), e.mod, e.bs, e.bsz, e.funs, e.frf, e.hok, e.bare⟩
section
variable {X : Cx} {pins : List (Addr × Obj)} {σ : St} {H : Hp} {s s' : Shared}
theorem Inv.env0 (I : Inv X pins σ H s) : Env0 X.prog X.w X.K X.mg X.base X.A X.stack s H :=
  ⟨I.ok.frames, I.ok.mod, I.bs, Nat.le_trans I.ok.bsz I.sz, I.stack, I.stkFree, I.hok, I.bare⟩
theorem Inv.after {Q : VK} {u : Value} (I : Inv X pins σ H s) (h : CE X.stack X.prog X.w H s Q u s') : EP X pins σ Q u s' := by
  obtain ⟨v, H', os, bare, un, hok, r, q⟩ := h
  obtain ⟨hh, g, d, t, os'⟩ := s'
  obtain rfl : os' = s.os := os
  exact ⟨v, H', I.call (h' := hh) (g' := g) (d' := d) (t' := t) (ch := []) un hok bare (fun b z => absurd z (by simp)), r, q⟩
end
noncomputable def tCall (sp : Sp) (dvs : List V) (E : XK) (t : TA) : TE := fun σ H Q => t σ H fun vs H1 => sp (vs ++ dvs) H1 Q E
noncomputable def Binds (K : PySem.W.Frag) (fd : FuncData) (ps : List Str) (ds : List Value) : Prop :=
  ∀ (s : Shared) (us : List Value), K.In s.heap → (us ++ ds).length = ps.length → BindsTo s fd ⟨us, []⟩ (ps.zip (us ++ ds))
theorem Binds.all {K : PySem.W.Frag} {fd : FuncData} {ps : List Str} (h : ∀ us : List Value, us.length = ps.length → bindArgs fd ⟨us, []⟩ = pure (ps.zip us)) : Binds K fd ps [] := fun s us _ hl => by
  rw [List.append_nil] at hl ⊢
  exact .of_eq (h us hl)
noncomputable def Passes (CX : CXT) (X : Cx) (E : XK) : Prop := ∀ (pins : List (Addr × Obj)) (σ : St) (H : Hp) (s : Shared) (e : Value) (s' : Shared), Inv X pins σ H s → CX X.stack H s E e s' → X.xe e s'
section
variable {X : Cx} {CX : CXT} {k : Nat} {f C : Addr} {fd : FuncData} {ps : List Str} {sp : Sp} {dvs : List V} {ds : List Value} {E : XK} {x m : Str} {p pos apos : Pos} {e o : Expr} {es : List Expr} {ta : TE} {t : TA}
theorem run_fn {pins : List (Addr × Obj)} {σ : St} {H : Hp} {s : Shared} {Q : VK} {us : List Value} {vs : List V} (F : FnOk X.prog X.w X.K X.mg X.base CX k f fd ps sp) (hr : Room k X.A) (hb : Binds X.K fd ps ds) (hd : Vals dvs ds) (hx : Passes CX X E)
    (I : Inv X pins σ H s) (r : Vals vs us) (h : sp (vs ++ dvs) H Q E) : wpAny (model X.prog X.w) X.A (call (.ref f) us) (EP X pins σ Q) X.xe s := by
  have r2 : Vals (vs ++ dvs) (us ++ ds) := r.append hd
  have hl : (us ++ ds).length = ps.length := by rw [← r2.length]; exact F.len _ _ _ _ h
  refine wpAny_call (codeAny_mono (F.run X.A X.stack s H ⟨us, []⟩ (us ++ ds) (vs ++ dvs) Q E hr I.env0 (hb s us I.kIn hl) r2 h) fun r s' hq => ?_)
  cases r with
  | error e => exact hx pins σ H s e s' I hq
  | ok fl =>
    cases fl with
    | ret u => exact I.after hq
    | next => exact False.elim hq
    | brk => exact False.elim hq
    | cont => exact False.elim hq
theorem pe_call (F : FnOk X.prog X.w X.K X.mg X.base CX k f fd ps sp) (hr : Room k X.A) (hg : Gl X x) (hm : X.mg x = some (.ref f)) (hk : PySem.W.keepIn X.K (.ref f) = true) (hb : Binds X.K fd ps ds) (hd : Vals dvs ds) (hx : Passes CX X E)
    (ha : PA X (e :: es) t) (hdb : (x == ("__debug__" : Str)) = false := by decide) (he : starEach (e :: es) X.env = (false, eval e X.env) :: starEach es X.env := by rfl) (hpl : (backTo pos (starEach es X.env)).any (·.1) = false := by rfl) :
    PE X (.Call (.Name x p) (e :: es) [] pos) (tCall sp dvs E t) := by
  intro pins s σ H Q I h
  refine wpAny_Call_Name_kw (ld_glob I hg hm ?_ hdb)
  refine PySem.W.callWith_K (h₀ := X.base) I.ok.mod.kin hk (thn (ha pos pins s σ H _ I h) fun us s1 ⟨vs, H1, I1, r, q⟩ => ⟨I1.kIn, ?_⟩) he hpl
  exact run_fn F hr hb hd hx I1 r q
end
noncomputable def PK (X : Cx) (kws : List Keyword) (t : TA) : Prop :=
  ∀ (pos : Pos) (pins : List (Addr × Obj)) (s : Shared) (σ : St) (H : Hp) (Q : List V → Hp → Prop), Inv X pins σ H s → t σ H Q → wpAny (model X.prog X.w) X.A (evalAll ((backToKw pos (keywordEach kws X.env)).map (·.2))) (AP X pins σ Q) X.xe s
section
variable {X : Cx} {CX : CXT} {k : Nat} {f C : Addr} {fd : FuncData} {ps ks : List Str} {sp : Sp} {E : XK} {x m : Str} {p pos apos kpos : Pos} {e o : Expr} {es : List Expr} {kws : List Keyword} {te ta : TE} {t tk : TA} {nm : Option Str}
theorem pk_nil : PK X [] tNil := fun _ _ _ _ H Q I h => wpAny_evalAll_nil ⟨[], H, I, .nil, h⟩
theorem pk_cons (ha : PE X e te) (hr : PK X kws t) : PK X (⟨nm, e, kpos⟩ :: kws) (tCons te t) := by
  intro pos pins s σ H Q I h
  show wpAny _ _ (evalAll ((do let v ← eval e X.env; standAt pos; pure v) :: (backToKw pos (keywordEach kws X.env)).map (·.2))) _ _ s
  refine wpAny_evalAll_cons (wpAny_bind (thn (ha pins s σ H _ I h) fun u s1 ⟨x, H1, I1, r1, q1⟩ => wpAny_bind (wpAny_standAt (wpAny_pure ?_))))
  exact thn (hr pos pins s1 σ H1 _ I1 q1) fun us s2 ⟨xs, H2, I2, r2, q2⟩ => ⟨x :: xs, H2, I2, .cons r1 r2, q2⟩
variable {g : List Value → List Value → List Value} {gV : List V → List V → List V}
end
structure FnScope (N P : List Str) (sc : Scope) : Prop where
  kind : sc.kind = .function
  co : sc.isCoroutine = false
  gen : sc.isGenerator = false
  nd : N.Nodup
  pre : N.take P.length = P
  par : ∀ x ∈ P, sc.names.lookup x = some .local ∨ sc.names.lookup x = some .cell
  nofree : ∀ y ∈ sc.names, y.2 ≠ .free
theorem bindL_out {kindOf : Str → Option NameKind} {x : Str} : ∀ {binds : List (Str × Value)} {m : Str → Option Value}, (∀ v, (x, v) ∉ binds) → bindL kindOf binds m x = m x
  | [], _, _ => rfl
  | (n, v) :: r, m, h => by
    unfold bindL
    rw [bindL_out fun w hw => h w (List.mem_cons_of_mem _ hw)]
    split
    · have : x ≠ n := by rintro rfl; exact h v List.mem_cons_self
      simp [this]
    · rfl
theorem bindC_out {kindOf : Str → Option NameKind} {x : Str} : ∀ {binds : List (Str × Value)} {m : Str → Option Value}, (∀ v, (x, v) ∉ binds) → bindC kindOf binds m x = m x
  | [], _, _ => rfl
  | (n, v) :: r, m, h => by
    unfold bindC
    rw [bindC_out fun w hw => h w (List.mem_cons_of_mem _ hw)]
    split
    · rfl
    · have : x ≠ n := by rintro rfl; exact h v List.mem_cons_self
      simp [this]
theorem bindL_get {kindOf : Str → Option NameKind} {x : Str} {v : Value} : ∀ {P : List Str} {vs : List Value} {i : Nat} {m : Str → Option Value}, P.Nodup → P[i]? = some x → vs[i]? = some v → kindOf x = some .local →
    bindL kindOf (P.zip vs) m x = some v
  | [], _, _, _, _, h, _, _ => by simp at h
  | _ :: _, [], _, _, _, _, h, _ => by simp at h
  | p :: P, w :: vs, 0, m, nd, h1, h2, hk => by
    simp at h1 h2; subst h1; subst h2
    show bindL kindOf ((p, w) :: P.zip vs) m p = _
    unfold bindL
    rw [bindL_out fun v hv => (List.nodup_cons.mp nd).1 (List.of_mem_zip hv).1, if_pos hk]
    simp
  | p :: P, w :: vs, i + 1, m, nd, h1, h2, hk => by
    show bindL kindOf ((p, w) :: P.zip vs) m x = _
    unfold bindL
    exact bindL_get (i := i) (List.nodup_cons.mp nd).2 (by simpa using h1) (by simpa using h2) hk
theorem bindC_get {kindOf : Str → Option NameKind} {x : Str} {v : Value} : ∀ {P : List Str} {vs : List Value} {i : Nat} {m : Str → Option Value}, P.Nodup → P[i]? = some x → vs[i]? = some v → kindOf x ≠ some .local →
    bindC kindOf (P.zip vs) m x = some v
  | [], _, _, _, _, h, _, _ => by simp at h
  | _ :: _, [], _, _, _, _, h, _ => by simp at h
  | p :: P, w :: vs, 0, m, nd, h1, h2, hk => by
    simp at h1 h2; subst h1; subst h2
    show bindC kindOf ((p, w) :: P.zip vs) m p = _
    unfold bindC
    rw [bindC_out fun v hv => (List.nodup_cons.mp nd).1 (List.of_mem_zip hv).1, if_neg hk]
    simp
  | p :: P, w :: vs, i + 1, m, nd, h1, h2, hk => by
    show bindC kindOf ((p, w) :: P.zip vs) m x = _
    unfold bindC
    exact bindC_get (i := i) (List.nodup_cons.mp nd).2 (by simpa using h1) (by simpa using h2) hk
noncomputable def start (N : List Str) (vs : List V) : St := vs.map some ++ List.replicate (N.length - vs.length) none
noncomputable def cxOf (CX : CXT) (P : Program) (w : World) (K : PySem.W.Frag) (mg : Str → Option Value) (base : Heap) (N : List Str) (qual : Str) (scope : Scope) (f : Addr) (cd : Value) (A : Around) (outer : List Env) (s : Shared) (H : Hp) (E : XK) : Cx where
  prog := P
  w := w
  K := K
  mg := mg
  base := base
  A := A.deeper (envOfC qual scope s.heap.objs.size f cd)
  N := N
  s₀ := s
  H₀ := H
  env := envOfC qual scope s.heap.objs.size f cd
  outer := outer
  stack := envOfC qual scope s.heap.objs.size f cd :: outer
  ex := []
  calm := true
  fn := fun _ => true
  pn := []
  xe := fun e s' => wpAny (model P w) (A.deeper (envOfC qual scope s.heap.objs.size f cd)) (leaving (envOfC qual scope s.heap.objs.size f cd) e) (fun _ s'' => CX outer H s E e s'') (fun e' s'' => CX outer H s E e' s'') s'
theorem cell_has {sc : Scope} {n : Nat} {x : Str} (h : sc.names.lookup x = some .cell) : ∃ c, (cellsFrom n sc.names []).lookup x = some c := by
  have q := PySem.W.cellsFrom_some sc.names n [] (.inl h)
  exact Option.isSome_iff_exists.mp q
theorem inv_start {CX : CXT} {P : Program} {w : World} {K : PySem.W.Frag} {mg : Str → Option Value} {base : Heap} {N ps : List Str} {qual : Str} {scope : Scope} {f : Addr} {cd : Value} {A : Around} {outer : List Env} {s s1 : Shared} {H : Hp} {E : XK} {us : List Value} {vs : List V}
    (S : FnScope N ps scope) (hd : A.handled = none) (e0 : Env0 P w K mg base A outer s H) (hl : vs.length = ps.length) (r : Vals vs us)
    (x : InCallC s s.heap.objs.size (bindL (envOfC qual scope s.heap.objs.size f cd).kindOf (ps.zip us) fun _ => none) (cellsFrom (s.heap.objs.size + 1) scope.names []) (bindC (envOfC qual scope s.heap.objs.size f cd).kindOf (ps.zip us) fun _ => none) s1) :
    Inv (cxOf CX P w K mg base N qual scope f cd A outer s H E) [] (start N vs) H s1 := by
  have hpl : ps.length ≤ N.length := by have := congrArg List.length S.pre; rw [List.length_take] at this; omega
  obtain ⟨h1, tk, rfl, hk⟩ := x.done
  have noA : ∀ b : Addr, b ∉ (cxOf CX P w K mg base N qual scope f cd A outer s H E).ex := fun b z => absurd (show b ∈ ([] : List Addr) from z) (by simp)
  refine ⟨⟨e0.mod, S.kind, rfl, rfl, Nat.le_refl _, fun y z c h1 h2 => ?_, fun y hy => ?_, fun y c _ h => ?_, fun _ => hd, Around.frames_deeper e0.frames, .inr ⟨rfl, rfl⟩, fun b z => absurd z (noA b), e0.bs, e0.bsz, fun b _ _ => noA b, fun b z => absurd z (noA b), e0.funs, e0.frf⟩,
    rfl, e0.bare, Un.kept hk, ⟨_, x.toInCall.ns, fun i y v h1 h2 h3 => ?_⟩, fun y c h => ⟨_, x.cell y c h⟩, e0.hok.fresh (Nat.le_refl _), fun y c h => ?_, fun p hp => absurd (show p ∈ ([] : List (Addr × Obj)) from hp) (by simp), e0.hok.kept hk, ?_⟩
  · exact name_of_addr x.apart (PySem.mem_of_lookup h1) (PySem.mem_of_lookup h2)
  · have hy : scope.names.lookup y = some .cell ∨ scope.names.lookup y = some .free := hy
    rcases hy with hy | hy
    · exact cell_has hy
    · exact absurd rfl (S.nofree _ (PySem.mem_of_lookup hy))
  · exact Nat.le_of_lt (x.above y c (PySem.mem_of_lookup h))
  · have hi : i < vs.length := by
      unfold start at h2
      by_cases hi : i < vs.length
      · exact hi
      · rw [List.getElem?_append_right (by simpa using hi)] at h2
        rw [List.getElem?_replicate] at h2
        split at h2 <;> cases h2
    have ha : vs[i]? = some v := by
      unfold start at h2
      rw [List.getElem?_append_left (by simpa using hi), List.getElem?_map] at h2
      cases e : vs[i]? with
      | none => rw [e] at h2; cases h2
      | some a => rw [e] at h2; cases h2; rfl
    obtain ⟨u, hu, rv⟩ := r.get ha
    have hp : ps[i]? = some y := by
      rw [← S.pre, List.getElem?_take_of_lt (by omega)]; exact h1
    have ndP : ps.Nodup := by rw [← S.pre]; exact S.nd.sublist (List.take_sublist _ _)
    refine ⟨u, rv, ?_⟩
    rcases S.par y (List.mem_of_getElem? hp) with k | k
    · exact .inl ⟨k, bindL_get ndP hp hu k⟩
    · obtain ⟨c, e⟩ := cell_has (n := s.heap.objs.size + 1) k
      refine .inr ⟨.inl k, c, e, ?_⟩
      have q := x.cell y c e
      rw [bindC_get ndP hp hu (by show scope.names.lookup y ≠ _; rw [k]; decide)] at q
      exact q
  · exact e0.hok.fresh (Nat.le_of_lt (x.above y c (PySem.mem_of_lookup h)))
  · unfold start
    show _ = N.length
    rw [List.length_append, List.length_map, List.length_replicate]
    omega
theorem fn_of {CX : CXT} {P : Program} {w : World} {K : PySem.W.Frag} {mg : Str → Option Value} {base : Heap} {k : Nat} {f : Addr} {name qual : Str} {params : Arguments} {body : List Stmt} {scope : Scope} {dV kV doc pm cdv ct oc : Value} {an od : Option Addr}
    {osl : Array (Option Value)} {N ps : List Str} {sp : Sp} (lk : K.lookup f = some ⟨oc, od, .func (PySem.W.fnOf name qual params body scope dV kV doc pm an cdv ct), osl⟩) (hcd : PySem.W.codeIn K cdv qual = true) (S : FnScope N ps scope)
    (len : ∀ vs H Q E, sp vs H Q E → vs.length = ps.length)
    (hbody : ∀ (A : Around) (outer : List Env) (s : Shared) (H : Hp) (vs : List V) (Q : VK) (E : XK), Room k (A.deeper (envOfC qual scope s.heap.objs.size f cdv)) → sp vs H Q E →
      ∃ t, PSs (cxOf CX P w K mg base N qual scope f cdv A outer s H E) body t ∧ t { nx := fun _ H' => Q .non H', rt := Q } (start N vs) H) :
    FnOk P w K mg base CX (k + 1) f (PySem.W.fnOf name qual params body scope dV kV doc pm an cdv ct) ps sp := by
  refine ⟨len, fun A outer s H args us vs Q E hr e0 hb r hsp => ?_⟩
  have hl := len _ _ _ _ hsp
  have KX : K.In s.heap := e0.mod.kin.keeps fun b o e => (e0.bs b o e).1
  have lim : s.heap.NoLimit := e0.mod.nolimit.keeps fun b o e => (e0.bs b o e).1
  have hkind : ∀ y ∈ ps.zip us, scope.names.lookup y.1 = some .local ∨ (scope.names.lookup y.1 = some .cell ∧ ((cellsFrom (s.heap.objs.size + 1) scope.names []).lookup y.1).isSome = true) := fun ⟨n, v⟩ hy => by
    rcases S.par n (List.of_mem_zip hy).1 with q | q
    · exact .inl q
    · exact .inr ⟨q, PySem.W.cellsFrom_some _ _ _ (.inl q)⟩
  refine codeAny_call_function hr.depth (KX _ _ lk) rfl S.co S.gen rfl (PySem.W.codeRec_of KX hcd) (hb _ _ _ _ ?_)
  refine wpAny_newFunctionEnv_cells S.kind hkind fun env he s1 x => ?_
  subst he
  refine ⟨lim.keeps x.toInCall.keep, codeAny_func ?_⟩
  obtain ⟨t, ht, hq⟩ := hbody A outer s H vs Q E (hr.deeper _) hsp
  have I : Inv (cxOf CX P w K mg base N qual scope f cdv A outer s H E) [] (start N vs) H s1 := inv_start S hr.hd e0 hl r x
  refine wpAny_mono (ht [] s1 (start N vs) H _ I hq) (fun fl s' hs => ?_) fun e s' hs => hs
  have fin : ∀ {σ' : St} {H' : Hp} {v : V} {u : Value}, Inv (cxOf CX P w K mg base N qual scope f cdv A outer s H E) [] σ' H' s' → RelV v u → Q v H' → CE outer P w H s Q u s' :=
    fun {σ' H' v u} J rv q => ⟨v, H', J.os, J.bare, J.base, J.hok, rv, q⟩
  cases fl with
  | ret u =>
    obtain ⟨v, σ', H', J, rv, q⟩ := hs
    exact fin J rv q
  | next =>
    obtain ⟨σ', H', J, q⟩ := hs
    exact fin (v := V.non) (u := Value.none) J rfl q
  | brk =>
    obtain ⟨_, _, _, q⟩ := hs
    exact False.elim q
  | cont =>
    obtain ⟨_, _, _, q⟩ := hs
    exact False.elim q
end L2
namespace L2
open PySem PySem.Spec PyProof.Rows
section
variable {X : Cx} {x : Str} {p pos : Pos} {e : Expr} {es : List Expr} {t : TA} {id T : String} {r : List V → Hp → VK → Prop}
noncomputable def tCB (r : List V → Hp → VK → Prop) (t : TA) : TE := fun σ H Q => t σ H fun vs H1 => r vs H1 Q
theorem pe_callB (hc : CallR X (.builtin id) r) (hg : Gl X x) (hm : X.mg x = none) (hv : bootBuiltins x = some (.builtin id)) (ha : PA X (e :: es) t) (hn : x ≠ "__name__" := by decide) (hdb : (x == ("__debug__" : Str)) = false := by decide)
    (he : starEach (e :: es) X.env = (false, eval e X.env) :: starEach es X.env := by rfl) (hpl : (backTo pos (starEach es X.env)).any (·.1) = false := by rfl) : PE X (.Call (.Name x p) (e :: es) [] pos) (tCB r t) := by
  intro pins s σ H Q I h
  refine wpAny_Call_Name_kw (ld_blt I hg hm hv ?_ hn hdb)
  exact PyProof.Rows.callWith_builtin1 (thn (ha pos pins s σ H _ I h) fun us s1 ⟨vs, H1, I1, r1, q1⟩ => hc pins s1 σ H1 vs us Q I1 r1 q1) he hpl
theorem pe_callTy (hc : CallR X (.type T) r) (hg : Gl X x) (hm : X.mg x = none) (hv : bootBuiltins x = some (.type T)) (ha : PA X (e :: es) t) (hn : x ≠ "__name__" := by decide) (hdb : (x == ("__debug__" : Str)) = false := by decide)
    (he : starEach (e :: es) X.env = (false, eval e X.env) :: starEach es X.env := by rfl) (hpl : (backTo pos (starEach es X.env)).any (·.1) = false := by rfl) : PE X (.Call (.Name x p) (e :: es) [] pos) (tCB r t) := by
  intro pins s σ H Q I h
  refine wpAny_Call_Name_kw (ld_blt I hg hm hv ?_ hn hdb)
  exact PyProof.Rows.callWith_type1 (thn (ha pos pins s σ H _ I h) fun us s1 ⟨vs, H1, I1, r1, q1⟩ => hc pins s1 σ H1 vs us Q I1 r1 q1) he hpl
end
end L2
namespace HT
open PySem PyProof.Rows
section
open PySem.SeqAt
open PySem.AutoSeq1 (wpAny_loadPart')
open PySem.MeetsSeq PySem.MeetsSeq2 PySem.MeetsSeq3
end
section
variable {prog : Program} {w : World} {A : Around} {E : Value → Shared → Prop} {s : Shared}
theorem cat_tup {t b : Addr} {vs ws : List Value} {Q : Value → Shared → Prop} (ht : IsTup s.heap t vs.toArray) (hb : IsTup s.heap b ws.toArray) (hv : vs ≠ [])
    (h1 : ws = [] → Q (.ref t) s) (h2 : ws ≠ [] → Q (.ref s.heap.objs.size) { s with heap := s.heap.push { cls := .type "tuple", data := .seq (vs ++ ws).toArray } })
    (hsz : vs.length + ws.length ≤ sizeLine) : wpAny (model prog w) A (binaryOp .Add (.ref t) (.ref b)) Q E s := by
  obtain ⟨⟨cls, dd, data, sl⟩, ho, hc, n, hd⟩ := id ht
  obtain ⟨⟨cls2, dd2, data2, sl2⟩, ho2, hc2, n2, hd2⟩ := id hb
  simp only at hc hd hc2 hd2
  subst hc hd hc2 hd2
  have e : vs.toArray ++ ws.toArray = (vs ++ ws).toArray := by simp
  by_cases hw : ws = []
  · exact concat_meets ⟨_, ho, rfl⟩ ⟨_, ho2, rfl⟩ noFill_tuple_add seq_tuple_add PySem.F.slot_tuple_add PySem.F.entry_tuple_add (PySem.F.args_tuple_add_2 _ _)
      (tuple_addW1 t b vs.toArray ws.toArray n n2 dd dd2 sl sl2 (by simpa using hv) (by simp [hw])) ⟨ho, ho2, h1 hw⟩
  · refine concat_meets ⟨_, ho, rfl⟩ ⟨_, ho2, rfl⟩ noFill_tuple_add seq_tuple_add PySem.F.slot_tuple_add PySem.F.entry_tuple_add (PySem.F.args_tuple_add_2 _ _)
      (tuple_addW2 t b vs.toArray ws.toArray n n2 dd dd2 sl sl2 (by simpa using hv) (by simpa using hw) (by rw [List.size_toArray, List.size_toArray]; exact hsz)) ⟨ho, ho2, ?_⟩
    rw [e]
    exact h2 hw
noncomputable def sIx (n d : Nat) : Option Int → Nat
  | none => d
  | some v => if v < 0 then (v + (n : Int)).toNat else min v.toNat n
theorem sIx_none (n d : Nat) : sIx n d none = d := rfl
theorem sIx_nat (n d k : Nat) : sIx n d (some (k : Int)) = min k n := by
  show (if (k : Int) < 0 then ((k : Int) + (n : Int)).toNat else min (k : Int).toNat n) = min k n
  rw [if_neg (by omega), Int.toNat_natCast]
end
end HT
namespace L2
open PySem PySem.Spec PyProof.Rows
noncomputable abbrev TO := St → Hp → (Option Int → Hp → Prop) → Prop
noncomputable def PO (X : Cx) (e : Option Expr) (t : TO) : Prop :=
  ∀ (pins : List (Addr × Obj)) (s : Shared) (σ : St) (H : Hp) (Q : Option Int → Hp → Prop), Inv X pins σ H s → t σ H Q →
    wpAny (model X.prog X.w) X.A (evalPart e X.env) (fun u s' => ∃ o H', Inv X pins σ H' s' ∧ IsPart u o ∧ Q o H') X.xe s
noncomputable def tNoPart : TO := fun _ H Q => Q none H
inductive isPart (Q : Option Int → Hp → Prop) (x : V) (H1 : Hp) : Prop
  | mk (i : Int) (e : x = .int i) (q : Q (some i) H1) : isPart Q x H1
noncomputable def tPart (t : TE) : TO := fun σ H Q => t σ H (isPart Q)
theorem intsAre_of {ns : List Int} : ∀ {us : List Value}, Vals (ns.map V.int) us → IntsAre us ns := by
  induction ns with
  | nil => intro us r; rw [List.map_nil] at r; cases r; exact .nil
  | cons n ns ih =>
    intro us r
    rw [List.map_cons] at r
    cases r with
    | cons r1 r2 =>
      obtain ⟨t, e⟩ := r1
      subst e
      exact .cons n t (ih r2)
section
variable {X : Cx} {e : Expr} {te : TE} {lo hi : Option Expr} {tl th : TO} {pos p2 : Pos}
theorem po_none : PO X none tNoPart := by
  intro pins s σ H Q I h
  rw [evalPart_none]
  exact wpAny_pure ⟨none, H, I, .none, h⟩
theorem po_some (h : PE X e te) : PO X (some e) (tPart te) := by
  intro pins s σ H Q I hw
  rw [evalPart_some]
  refine thn (h pins s σ H _ I hw) fun u s1 ⟨x, H1, I1, r1, q1⟩ => ?_
  obtain ⟨i, rfl, q⟩ := q1
  obtain ⟨t, rfl⟩ := r1
  exact ⟨some i, H1, I1, .int i t, q⟩
noncomputable def SlR (X : Cx) (r : V → Option Int → Option Int → Hp → VK → Prop) : Prop :=
  ∀ (pins : List (Addr × Obj)) (s : Shared) (σ : St) (H : Hp) (x : V) (v vl vu : Value) (lo hi : Option Int) (sl : Addr) (Q : VK), Inv X pins σ H s → RelV x v → s.heap.IsSliceOf sl vl vu .none → IsPart vl lo → IsPart vu hi → r x lo hi H Q →
    ∃ T id, typeLookup (.type T) "__getitem__" = pure (some (.builtin id)) ∧ s.TypeIs v T ∧ wpAny (model X.prog X.w) X.A (getItem v (.ref sl)) (EP X pins σ Q) X.xe s
noncomputable def tSl (r : V → Option Int → Option Int → Hp → VK → Prop) (te : TE) (tl th : TO) : TE := fun σ H Q => te σ H fun x H1 => tl σ H1 fun l H2 => th σ H2 fun u H3 => r x l u H3 Q
theorem pe_slice {r : V → Option Int → Option Int → Hp → VK → Prop} (hr : SlR X r) (he : PE X e te) (hl : PO X lo tl) (hu : PO X hi th) : PE X (.Subscript e (.Slice lo hi none p2) pos) (tSl r te tl th) := by
  intro pins s σ H Q I h
  refine Subscript_ (thn (he pins s σ H _ I h) fun v s1 ⟨x, H1, I1, r1, q1⟩ => ?_)
  refine wpAny_Slice (thn (hl pins s1 σ H1 _ I1 q1) fun vl s2 ⟨l, H2, I2, pl, q2⟩ => thn (hu pins s2 σ H2 _ I2 q2) fun vu s3 ⟨u, H3, I3, pu, q3⟩ => ?_)
  rw [evalPart_none]
  refine wpAny_pure ?_
  have I4 : Inv X pins σ H3 { s3 with heap := s3.heap.push { cls := .type "slice", data := .fields #[vl, vu, .none] } } := I3.kept (t' := s3.toks) fun b ob q => Heap.get?_push_of_some _ q
  obtain ⟨T, id, hT, ht, hg⟩ := hr pins { s3 with heap := s3.heap.push { cls := .type "slice", data := .fields #[vl, vu, .none] } } σ H3 x v vl vu l u s3.heap.objs.size Q I4 r1 (Heap.IsSliceOf.new ..) pl pu q3
  show wpAny (model X.prog X.w) X.A (subscriptTail e (.Slice lo hi none p2) v (.ref s3.heap.objs.size)) (EP X pins σ Q) X.xe { s3 with heap := s3.heap.push { cls := .type "slice", data := .fields #[vl, vu, .none] } }
  exact tail_any (ops := [.ref s3.heap.objs.size, v]) ht hT hg (by with_unfolding_all rfl)
noncomputable def cutV (xs : List V) (lo hi : Option Int) : List V := (xs.drop (HT.sIx xs.length 0 lo)).take (HT.sIx xs.length xs.length hi - HT.sIx xs.length 0 lo)
theorem cutV_length (xs : List V) (lo hi : Option Int) : (cutV xs lo hi).length ≤ xs.length := by
  unfold cutV
  rw [List.length_take, List.length_drop]
  omega
inductive rCatT (K : PySem.W.Frag) (x y : V) (H : Hp) (Q : VK) : Prop
  | mk (a b : Addr) (xs ys : List V) (ex : x = .ref a) (ey : y = .ref b) (s : SqT K H a xs) (s' : SqT K H b ys) (n : xs ≠ []) (z : xs.length + ys.length ≤ sizeLine) (q0 : ys = [] → Q (.ref a) H) (q : ys ≠ [] → ∀ p, H p = none → Q (.ref p) (upd H p (.tup (xs ++ ys)))) : rCatT K x y H Q
theorem Vals.nil_iff {xs : List V} {us : List Value} (r : Vals xs us) : us = [] ↔ xs = [] := by
  cases r with
  | nil => simp
  | cons _ _ => simp
theorem op_catT : OpR X (binaryOp .Add) (rCatT X.K) := by
  intro pins s σ H x y v u Q I rx ry h
  obtain ⟨a, b, xs, ys, rfl, rfl, ha, hb, hx, hz, q1, q2⟩ := h
  cases rx
  cases ry
  obtain ⟨its, r1, p1, _⟩ := I.tuple ha
  obtain ⟨its2, r2, p2, _⟩ := I.tuple hb
  refine HT.cat_tup p1 p2 (fun z => hx (r1.nil_iff.mp z)) (fun z => ⟨.ref a, H, I, rfl, q1 (r2.nil_iff.mp z)⟩) (fun z => ?_) (by rw [← r1.length, ← r2.length]; exact hz)
  refine ⟨.ref s.heap.objs.size, _, I.laid (t' := s.toks) (o := .tup (xs ++ ys)) (fun b ob q => Heap.get?_push_of_some _ q) (Nat.le_refl _) ?_, rfl, q2 (fun w => z (r2.nil_iff.mpr w)) _ (I.hok.fresh (Nat.le_refl _))⟩
  exact ⟨by rw [List.length_append]; exact hz, _, r1.append r2, IsTup.new _ _⟩
end
end L2
namespace L2
open PySem PySem.Spec PyProof.Rows
noncomputable def ixN (n : Nat) (i : Int) : Option Nat := if 0 ≤ i then (if i < n then some i.toNat else none) else if -(n : Int) ≤ i then some (i + n).toNat else none
noncomputable def atI {α : Type} (xs : List α) (i : Int) : Option α := (ixN xs.length i).bind fun j => xs[j]?
theorem ixN_seq {n : Nat} {i : Int} {j : Nat} (h : ixN n i = some j) : seqIndex? i n = some j ∧ j < n ∧ -(n : Int) ≤ i ∧ i < n := by
  unfold ixN at h
  by_cases h0 : 0 ≤ i
  · rw [if_pos h0] at h
    by_cases h1 : i < n
    · rw [if_pos h1] at h
      have e : i.toNat = j := Option.some.inj h
      exact ⟨by rw [seqIndex_of h0 h1, e], by omega, by omega, h1⟩
    · rw [if_neg h1] at h; cases h
  · rw [if_neg h0] at h
    by_cases h1 : -(n : Int) ≤ i
    · rw [if_pos h1] at h
      have e : (i + n).toNat = j := Option.some.inj h
      exact ⟨by rw [seqIndex_neg (by omega) h1, e], by omega, h1, by omega⟩
    · rw [if_neg h1] at h; cases h
theorem atI_get {α : Type} {xs : List α} {i : Int} {v : α} (h : atI xs i = some v) : ∃ j, seqIndex? i xs.length = some j ∧ xs[j]? = some v ∧ j < xs.length ∧ -(xs.length : Int) ≤ i ∧ i < xs.length := by
  unfold atI at h
  cases e : ixN xs.length i with
  | none => rw [e] at h; cases h
  | some j =>
    rw [e] at h
    obtain ⟨h1, h2, h3, h4⟩ := ixN_seq e
    exact ⟨j, h1, h, h2, h3, h4⟩
theorem atI_nat {α : Type} {xs : List α} {j : Nat} {v : α} (h : xs[j]? = some v) : atI xs (j : Int) = some v := by
  have hj : j < xs.length := (List.getElem?_eq_some_iff.mp h).1
  have e : ixN xs.length (j : Int) = some j := by
    unfold ixN
    rw [if_pos (by omega), if_pos (by omega)]; simp
  unfold atI; rw [e]; exact h
noncomputable def PlainIx (b : Expr) : Prop := ∀ o i, subscripted b false o i = operate [o, i] (getItem o i)
noncomputable def IxR (X : Cx) (r : R2) : Prop :=
  ∀ (value slice : Expr) (pins : List (Addr × Obj)) (s : Shared) (σ : St) (H : Hp) (x y : V) (v u : Value) (Q : VK), Inv X pins σ H s → RelV x v → RelV y u → r x y H Q →
    subscripted slice false v u = operate [v, u] (getItem v u) → wpAny (model X.prog X.w) X.A (subscriptTail value slice v u) (EP X pins σ Q) X.xe s
noncomputable def MtR (X : Cx) (id : String) (r : V → List V → Hp → VK → Prop) : Prop :=
  ∀ (pins : List (Addr × Obj)) (s : Shared) (σ : St) (H : Hp) (x : V) (xs : List V) (v : Value) (us : List Value) (Q : VK), Inv X pins σ H s → RelV x v → Vals xs us → r x xs H Q →
    wpAny (model X.prog X.w) X.A (call (.builtin id) (v :: us)) (EP X pins σ Q) X.xe s
section
variable {X : Cx} {a b : Expr} {ta tb : TE} {pos : Pos}
theorem pe_ix {r : R2} (hr : IxR X r) (ha : PE X a ta) (hb : PE X b tb) (hs : PlainIx b) : PE X (.Subscript a b pos) (tOp r ta tb) := by
  intro pins s σ H Q I h
  exact Subscript_ (binT ha hb I h fun v u s2 x y H2 I2 rx ry q => hr a b pins s2 σ H2 x y v u Q I2 rx ry q (hs _ _))
inductive rIxL (K : PySem.W.Frag) (x y : V) (H : Hp) (Q : VK) : Prop
  | mk (p : Addr) (xs : List V) (i : Int) (v : V) (ex : x = .ref p) (ey : y = .int i) (s : SqL K H p xs) (a : atI xs i = some v) (q : Q v H) : rIxL K x y H Q
inductive rIxT (K : PySem.W.Frag) (x y : V) (H : Hp) (Q : VK) : Prop
  | mk (p : Addr) (xs : List V) (i : Int) (v : V) (ex : x = .ref p) (ey : y = .int i) (s : SqT K H p xs) (a : atI xs i = some v) (q : Q v H) : rIxT K x y H Q
noncomputable def rIxS : R2 := fun x y H Q => ∃ z i c, x = .str z ∧ y = .int i ∧ z.length ≤ sizeLine ∧ atI z.cps.toList i = some c ∧ Q (.str ⟨#[c]⟩) H
theorem ix_list : IxR X (rIxL X.K) := by
  intro value slice pins s σ H x y v u Q I rx ry h hs
  obtain ⟨p, xs, i, z, rfl, rfl, hq, he, q⟩ := h
  cases rx
  obtain ⟨t, rfl⟩ := ry
  obtain ⟨its, r, pl, hz⟩ := I.list hq
  obtain ⟨j, h1, h2, h3, h4, h5⟩ := atI_get he
  obtain ⟨w, ew, rw'⟩ := r.get h2
  have hl := r.length
  have hn := line63
  have fin : EP X pins σ Q w s := ⟨z, H, I, rw', q⟩
  by_cases h0 : 0 ≤ i
  · have hj : i.toNat = j := by
      rw [seqIndex_of h0 h5] at h1
      exact Option.some.inj h1
    exact item_listR pl.isList h0 (by omega) (by rw [hj]; simpa using ew) fin hs
  · have hj : (i + (its.toArray.size : Int)).toNat = j := by
      rw [seqIndex_neg (by omega) h4] at h1
      rw [List.size_toArray, ← hl]
      exact Option.some.inj h1
    exact subscriptTail_builtinR (x := w) pl.isList.typeIs slot_list_getitem.lookup
      (wpAny_getItem_list_neg (Q := fun r s' => r = w ∧ EP X pins σ Q r s') pl.isList (by omega) (by rw [List.size_toArray] <;> omega) (by omega) (by rw [hj]; simpa using ew) ⟨rfl, fin⟩) hs
theorem ix_tup : IxR X (rIxT X.K) := by
  intro value slice pins s σ H x y v u Q I rx ry h hs
  obtain ⟨p, xs, i, z, rfl, rfl, hq, he, q⟩ := h
  cases rx
  obtain ⟨t, rfl⟩ := ry
  obtain ⟨its, r, pl, hz⟩ := I.tuple hq
  obtain ⟨j, h1, h2, h3, h4, h5⟩ := atI_get he
  obtain ⟨w, ew, rw'⟩ := r.get h2
  have hl := r.length
  have hn := line63
  have fin : EP X pins σ Q w s := ⟨z, H, I, rw', q⟩
  exact subscriptTail_builtinR (x := w) pl.typeIs slot_tuple_getitem.lookup
    (getItem_tuple (j := j) (Q := fun r s' => r = w ∧ EP X pins σ Q r s') pl (by omega) (by omega) (by rw [List.size_toArray, ← hl]; exact h1) (by simpa using ew) ⟨rfl, fin⟩) hs
theorem ix_str : IxR X rIxS := by
  intro value slice pins s σ H x y v u Q I rx ry h hs
  obtain ⟨z, i, c, rfl, rfl, hz, he, q⟩ := h
  obtain ⟨t, rfl⟩ := rx
  obtain ⟨t', rfl⟩ := ry
  obtain ⟨j, h1, h2, h3, h4, h5⟩ := atI_get he
  have hl : z.cps.toList.length = z.length := by simp [Str.length]
  rw [hl] at h1 h4 h5
  have hn := line63
  exact tail_any (typeIs_str s z t) slot_str_getitem.lookup (getItem_str (c := c) (by
    have e1 : decide (i < -(2 ^ 63 : Int)) = false := decide_eq_false (by omega)
    have e2 : decide (i ≥ 2 ^ 63) = false := decide_eq_false (by omega)
    rw [e1, e2, Bool.or_false]) (by rw [h1]; simpa using h2) ⟨.str ⟨#[c]⟩, H, I.tok _, ⟨_, rfl⟩, q⟩) hs
theorem slice_bounds (lo hi : Option Int) (n : Nat) : (sliceBounds lo hi none n).1 = ((HT.sIx n 0 lo : Nat) : Int) ∧ (sliceBounds lo hi none n).2.1 = ((HT.sIx n n hi : Nat) : Int) ∧ (sliceBounds lo hi none n).2.2 = 1 := by
  refine ⟨?_, ?_, rfl⟩
  · cases lo with
    | none => simp [sliceBounds, HT.sIx]
    | some i =>
      simp only [sliceBounds, HT.sIx, Option.getD_none, show (1 : Int) > 0 by decide, if_true]
      by_cases h : i < 0
      · simp only [h, if_true] <;> omega
      · simp only [h, if_false] <;> omega
  · cases hi with
    | none => simp [sliceBounds, HT.sIx]
    | some i =>
      simp only [sliceBounds, HT.sIx, Option.getD_none, show (1 : Int) > 0 by decide, if_true]
      by_cases h : i < 0
      · simp only [h, if_true] <;> omega
      · simp only [h, if_false] <;> omega
theorem slicePick_cut (its : List Value) (lo hi : Option Int) : slicePick its.toArray lo hi none = ((its.drop (HT.sIx its.length 0 lo)).take (HT.sIx its.length its.length hi - HT.sIx its.length 0 lo)).toArray := by
  obtain ⟨h1, h2, h3⟩ := slice_bounds lo hi its.toArray.size
  unfold slicePick
  rw [h1, h2, h3]
  simp only [sliceRange_one, pick_run, List.size_toArray] <;> rfl
inductive rSlL (K : PySem.W.Frag) (x : V) (lo hi : Option Int) (H : Hp) (Q : VK) : Prop
  | mk (a : Addr) (xs : List V) (ex : x = .ref a) (s : SqL K H a xs) (q : ∀ p, H p = none → Q (.ref p) (upd H p (.lst (cutV xs lo hi)))) : rSlL K x lo hi H Q
theorem sl_list : SlR X (rSlL X.K) := by
  intro pins s σ H x v vl vu lo hi sl Q I rx hs pl pu h
  obtain ⟨a, xs, rfl, hx, q⟩ := h
  cases rx
  obtain ⟨its, r, ht, hz⟩ := I.list hx
  have hlen := r.length
  refine ⟨"list", _, slot_list_getitem.lookup, ht.isList.typeIs, ?_⟩
  refine wpAny_getItem_list_slice ht.isList hs pl pu .none (by simp) ?_ (by rw [List.size_toArray] <;> omega)
  rw [slicePick_cut, ← hlen]
  refine ⟨.ref s.heap.objs.size, _, I.laid (t' := s.toks) (o := .lst (cutV xs lo hi)) (fun b ob q => Heap.get?_push_of_some _ q) (Nat.le_refl _) ?_, rfl, q _ (I.hok.fresh (Nat.le_refl _))⟩
  exact ⟨Nat.le_trans (cutV_length xs lo hi) hz, _, 0, (r.drop (HT.sIx xs.length 0 lo)).take (HT.sIx xs.length xs.length hi - HT.sIx xs.length 0 lo), Heap.get?_push_size _ rfl⟩
theorem call_len_seq : CallR X (.builtin "len") (fun xs H Q => ∃ p ys, xs = [.ref p] ∧ (SqL X.K H p ys ∨ SqT X.K H p ys) ∧ Q (.int ys.length) H) := by
  intro pins s σ H xs us Q I r h
  obtain ⟨p, ys, rfl, hq, q⟩ := h
  obtain ⟨u, rfl, rx⟩ := vals1 r
  cases rx
  have hn := line63
  rcases hq with hq | hq
  · obtain ⟨its, r', pl, hz⟩ := I.list hq
    have hlen := r'.length
    exact Calls.call_len_list pl.isList (by simp only [List.size_toArray] <;> omega) ⟨.int ys.length, H, I.tok _, ⟨s.toks + 1, by rw [List.size_toArray, hlen]⟩, q⟩
  · obtain ⟨its, r', pl, hz⟩ := I.tuple hq
    have hlen := r'.length
    exact len_tuple pl (by simp only [List.size_toArray] <;> omega) ⟨.int ys.length, H, I.tok _, ⟨s.toks + 1, by rw [List.size_toArray, hlen]⟩, q⟩
theorem call_list_of : CallR X (.type "list") (fun xs H Q => ∃ p ys, xs = [.ref p] ∧ (SqL X.K H p ys ∨ SqT X.K H p ys) ∧ ∀ l, H l = none → Q (.ref l) (upd H l (.lst ys))) := by
  intro pins s σ H xs us Q I r h
  obtain ⟨p, ys, rfl, hq, q⟩ := h
  obtain ⟨u, rfl, rx⟩ := vals1 r
  cases rx
  have fin : ∀ (its : List Value), Vals ys its → ys.length ≤ sizeLine → ∀ (h' : Heap) (c' : Nat), (∀ b o', s.heap.get? b = some o' → h'.get? b = some o') →
      h'.get? s.heap.objs.size = some { cls := .type "list", dict := none, data := .seq its.toArray c', slots := #[] } → EP X pins σ Q (.ref s.heap.objs.size) { s with heap := h' } := fun its r' hz h' c' kp e =>
    ⟨.ref s.heap.objs.size, _, I.laid (t' := s.toks) kp (Nat.le_refl _) (show ObjOk X.prog X.w _ h' _ (.lst ys) from ⟨hz, its, c', r', e⟩), rfl, q _ (I.hok.fresh (Nat.le_refl _))⟩
  rcases hq with hq | hq
  · obtain ⟨its, r', pl, hz⟩ := I.list hq
    have hlen := r'.length
    obtain ⟨o, ho, hc, n, hd⟩ := pl.isList
    exact call_list_seq p (.inl rfl) ho hc hd (fun h' c' kp e => fin its r' hz h' c' kp e) (by simp only [List.size_toArray] <;> omega)
  · obtain ⟨its, r', pl, hz⟩ := I.tuple hq
    have hlen := r'.length
    obtain ⟨o, ho, hc, n, hd⟩ := pl
    exact call_list_seq p (.inr rfl) ho hc hd (fun h' c' kp e => fin its r' hz h' c' kp e) (by simp only [List.size_toArray] <;> omega)
theorem call_tuple_of : CallR X (.type "tuple") (fun xs H Q => ∃ p ys, xs = [.ref p] ∧ ((SqL X.K H p ys ∧ ∀ l, H l = none → Q (.ref l) (upd H l (.tup ys))) ∨ (SqT X.K H p ys ∧ Q (.ref p) H))) := by
  intro pins s σ H xs us Q I r h
  obtain ⟨p, ys, rfl, h⟩ := h
  obtain ⟨u, rfl, rx⟩ := vals1 r
  cases rx
  rcases h with ⟨hq, q⟩ | ⟨hq, q⟩
  · obtain ⟨its, r', pl, hz⟩ := I.list hq
    have hlen := r'.length
    refine call_tuple_list pl.isList (fun h' kp => ?_) (by simp only [List.size_toArray] <;> omega)
    have I1 : Inv X pins σ H { s with heap := h' } := I.kept (t' := s.toks) kp
    have I2 : Inv X pins σ (upd H h'.objs.size (.tup ys)) { s with heap := h'.push { cls := .type "tuple", data := .seq its.toArray } } :=
      I1.laid (t' := s.toks) (fun b o e => Heap.get?_push_of_some _ e) (Nat.le_refl _) (show ObjOk X.prog X.w _ _ _ (.tup ys) from ⟨hz, its, r', IsTup.new _ _⟩)
    exact ⟨.ref h'.objs.size, _, I2, rfl, q _ (I1.hok.fresh (Nat.le_refl _))⟩
  · obtain ⟨its, r', pl, hz⟩ := I.tuple hq
    exact call_tuple_same pl ⟨.ref p, H, I, rfl, q⟩
noncomputable def tyV (K : PySem.W.Frag) (T : String) (x : V) (H : Hp) : Prop := match x with
  | .str _ => T = "str"
  | .int _ => T = "int"
  | .ref p => (T = "list" ∧ ∃ xs, SqL K H p xs) ∨ (T = "tuple" ∧ ∃ o, K.lookup p = some o ∧ o.cls = .type "tuple" ∧ o.dict = none) ∨
      (T = "dict" ∧ ((∃ kvs, H p = some (.dK kvs)) ∨ ∃ kvs, H p = some (.dT kvs))) ∨ (T = "set" ∧ ∃ S n, H p = some (.set S n))
  | _ => False
theorem tyV_is {pins : List (Addr × Obj)} {σ : St} {H : Hp} {s : Shared} {T : String} {x : V} {v : Value} (I : Inv X pins σ H s) (r : RelV x v) (ty : tyV X.K T x H) :
    s.TypeIs v T ∧ ∀ a, v = .ref a → ∃ ob, s.heap.get? a = some ob ∧ ob.dict = none := by
  cases x with
  | str z =>
    obtain ⟨t, rfl⟩ := r
    cases (show T = "str" from ty)
    exact ⟨typeIs_str s z t, fun _ e => nomatch e⟩
  | int i =>
    obtain ⟨t, rfl⟩ := r
    cases (show T = "int" from ty)
    exact ⟨typeIs_int s i t, fun _ e => nomatch e⟩
  | ref p =>
    cases r
    rcases ty with ⟨rfl, xs, hq⟩ | ⟨rfl, o, hk, hc, hd⟩ | ⟨rfl, hk⟩ | ⟨rfl, S, n, hk⟩
    · obtain ⟨its, _, pl, _⟩ := I.list hq
      refine ⟨pl.isList.typeIs, fun a e => ?_⟩
      cases e
      obtain ⟨o, n, e, c, hd, _⟩ := pl
      exact ⟨o, e, hd⟩
    · refine ⟨⟨o, I.kIn p o hk, hc⟩, fun a e => ?_⟩
      cases e
      exact ⟨o, I.kIn _ o hk, hd⟩
    · have z : ∃ o, s.heap.get? p = some o ∧ o.ExactDict := by
        rcases hk with ⟨kvs, hk⟩ | ⟨kvs, hk⟩
        · obtain ⟨_, _, _, _, o, _, _, e, ex, _⟩ := I.hok p _ hk
          exact ⟨o, e, ex⟩
        · obtain ⟨_, _, _, _, o, _, _, e, ex, _⟩ := I.hok p _ hk
          exact ⟨o, e, ex⟩
      obtain ⟨o, e, ex⟩ := z
      refine ⟨⟨o, e, ex.1⟩, fun a e2 => ?_⟩
      cases e2
      exact ⟨o, e, ex.2.1⟩
    · obtain ⟨o, _, _, _, e, ex, _⟩ := I.hok p _ hk
      refine ⟨⟨o, e, ex.1⟩, fun a e2 => ?_⟩
      cases e2
      exact ⟨o, e, ex.2.1⟩
  | _ => exact False.elim ty
noncomputable def tBM0 (K : PySem.W.Frag) (T : String) (r : V → List V → Hp → VK → Prop) (to : TE) : TE := fun σ H Q => to σ H fun x H1 => tyV K T x H1 ∧ r x [] H1 Q
noncomputable def tBM (K : PySem.W.Frag) (T : String) (r : V → List V → Hp → VK → Prop) (to : TE) (t : TA) : TE := fun σ H Q => to σ H fun x H1 => tyV K T x H1 ∧ t σ H1 fun xs H2 => r x xs H2 Q
variable {o e : Expr} {es : List Expr} {to : TE} {t : TA} {name : Str} {apos cpos : Pos} {T id : String} {r : V → List V → Hp → VK → Prop}
theorem pe_bm0 (pa : PlainAttrs T) (slot : Slot T name id) (hty : typeOf (.builtin id) = pure (.type "method_descriptor")) (hm : MtR X id r) (ho : PE X o to)
    (hbase : attributeBase o name X.env (eval o X.env) = eval o X.env := by rfl) (hline : (apos.endLine == cpos.line) = true := by rfl) : PE X (.Call (.Attribute o name apos) [] [] cpos) (tBM0 X.K T r to) := by
  intro pins s σ H Q I h
  refine wpAny_Call_method0_late hbase hline (thn (ho pins s σ H _ I h) fun v s1 ⟨x, H1, I1, r1, ty, q1⟩ => ?_)
  obtain ⟨h1, h2⟩ := tyV_is I1 r1 ty
  exact ⟨T, id, pa, slot, hty, h1, h2, Calls.callWith_builtin rfl (PySem.evalArgs_none (hm pins s1 σ H1 x [] v [] Q I1 r1 .nil q1))⟩
theorem pe_bm (pa : PlainAttrs T) (slot : Slot T name id) (hty : typeOf (.builtin id) = pure (.type "method_descriptor")) (hm : MtR X id r) (ho : PE X o to) (ha : PA X (e :: es) t)
    (hbase : attributeBase o name X.env (eval o X.env) = eval o X.env := by rfl)
    (hfew : ((backTo cpos (starEach (e :: es) X.env)).all (fun x => !x.1) && (backToKw cpos (keywordEach [] X.env)).all (fun x => x.1.isSome)
      && decide ((e :: es).length + ([] : List Keyword).length + (if ([] : List Keyword).isEmpty then 0 else 1) < 30)) = true := by rfl)
    (hline : (apos.endLine == cpos.line) = true := by rfl) (hs : starEach (e :: es) X.env = (false, eval e X.env) :: starEach es X.env := by rfl) (hplain : (backTo cpos (starEach es X.env)).any (·.1) = false := by rfl) :
    PE X (.Call (.Attribute o name apos) (e :: es) [] cpos) (tBM X.K T r to t) := by
  intro pins s σ H Q I h
  refine wpAny_Call_method_late hbase hfew hline rfl (thn (ho pins s σ H _ I h) fun v s1 ⟨x, H1, I1, r1, ty, q1⟩ => ?_)
  obtain ⟨h1, h2⟩ := tyV_is I1 r1 ty
  refine ⟨T, id, pa, slot, hty, h1, h2, ?_⟩
  have hA := ha cpos pins s1 σ H1 _ I1 q1
  rw [hs] at hA ⊢
  refine Calls.callWith_builtin (by show (false || (backTo cpos (starEach es X.env)).any (·.1)) = false; rw [hplain] <;> rfl) (Calls.evalArgs_plain ?_)
  exact thn hA fun us s2 ⟨vs, H2, I2, r2, q2⟩ => hm pins s2 σ H2 x vs v us Q I2 r1 r2 q2
end
end L2
namespace L2
open PySem PySem.Spec PyProof.Rows
noncomputable def MtM (X : Cx) (id : String) (r : V → List V → Hp → VK → Prop) : Prop :=
  ∀ (pins : List (Addr × Obj)) (s : Shared) (σ : St) (H : Hp) (x : V) (xs : List V) (v : Value) (us : List Value) (Q : VK), Inv X pins σ H s → RelV x v → Vals xs us → r x xs H Q →
    wpAny (model X.prog X.w) X.A (call (.builtin id) (v :: us)) (EP X pins σ Q) X.xe s
theorem Vals.one {x : V} {us : List Value} (h : Vals [x] us) : ∃ u, us = [u] ∧ RelV x u := by
  cases h with
  | cons r t => cases t; exact ⟨_, rfl, r⟩
theorem Vals.zero : ∀ {us : List Value}, Vals [] us → us = []
  | _, .nil => rfl
theorem Vals.eraseIdx : ∀ {xs : List V} {us : List Value} (i : Nat), Vals xs us → Vals (xs.eraseIdx i) (us.eraseIdx i)
  | _, _, _, .nil => .nil
  | _, _, 0, .cons _ t => t
  | _, _, i + 1, .cons r t => .cons r (Vals.eraseIdx i t)
theorem Vals.reverse {xs : List V} {us : List Value} (h : Vals xs us) : Vals xs.reverse us.reverse := by
  induction h with
  | nil => exact .nil
  | cons r t ih => rw [List.reverse_cons, List.reverse_cons]; exact Vals.append ih (.cons r .nil)
theorem len_erase {α : Type} : ∀ (l : List α) (i : Nat), (l.eraseIdx i).length ≤ l.length
  | [], _ => Nat.le_refl _
  | _ :: _, 0 => Nat.le_succ _
  | _ :: r, i + 1 => Nat.succ_le_succ (len_erase r i)
section
variable {X : Cx} {pins : List (Addr × Obj)} {σ : St} {H : Hp} {s : Shared} {l b : Addr} {xs ys zs : List V}
theorem Inv.lset {its its' : List Value} {n : Nat} {f : Array Value → Array Value} {t' : Nat} (I : Inv X pins σ H s) (hH : H l = some (.lst xs))
    (e : s.heap.get? l = some { cls := .type "list", data := .seq its.toArray n }) (hf : f its.toArray = its'.toArray) (hv : Vals ys its') (hz : ys.length ≤ sizeLine) :
    Inv X pins σ (upd H l (.lst ys)) { s with heap := s.heap.update l (Obj.mapSeq f), toks := t' } := by
  have q := PySem.IsL.update e f
  rw [hf] at q
  refine I.write (x := l) (e := l) (by rw [hH]; exact trivial) (.inl rfl) (fun b' u hb hu => (Heap.get?_update_other s.heap (Obj.mapSeq f) (Ne.symm hb)).trans hu) ⟨_, q⟩ ?_
  exact ⟨hz, its', _, hv, q⟩
theorem Inv.lnew {its : List Value} {t' : Nat} (I : Inv X pins σ H s) (hv : Vals ys its) (hz : ys.length ≤ sizeLine) :
    Inv X pins σ (upd H s.heap.objs.size (.lst ys)) { s with heap := s.heap.push { cls := .type "list", data := .seq its.toArray }, toks := t' } :=
  I.laid (fun _ _ q => Heap.get?_push_of_some _ q) (Nat.le_refl _) ⟨hz, its, 0, hv, Heap.get?_push_size _ rfl⟩
theorem Inv.fresh (I : Inv X pins σ H s) : H s.heap.objs.size = none := I.hok.fresh (Nat.le_refl _)
theorem Inv.lstM (I : Inv X pins σ H s) (hH : H l = some (.lst xs)) : xs.length ≤ sizeLine ∧ ∃ (its : List Value) (n : Nat), Vals xs its ∧ xs.length = its.length ∧ s.heap.get? l = some { cls := .type "list", data := .seq its.toArray n } := by
  obtain ⟨z, its, n, r, e⟩ := I.hok l _ hH
  exact ⟨z, its, n, r, r.length, e⟩
theorem notLongL {n : Nat} (h : n ≤ sizeLine) : Builtin.List.listTooLong n = false := by
  unfold Builtin.List.listTooLong
  exact decide_eq_false (by omega)
end
section
variable {X : Cx}
inductive rAppend (x : V) (vs : List V) (H : Hp) (Q : VK) : Prop
  | mk (l : Addr) (xs : List V) (y : V) (ex : x = .ref l) (ev : vs = [y]) (h : H l = some (.lst xs)) (z : xs.length < sizeLine) (q : Q .non (upd H l (.lst (xs ++ [y])))) : rAppend x vs H Q
theorem mt_append : MtM X "list.append" rAppend := by
  intro pins s σ H x vs v us Q I rx rv h
  obtain ⟨l, xs, y, rfl, rfl, hH, hz, q⟩ := h
  cases rx
  obtain ⟨u, rfl, ru⟩ := rv.one
  obtain ⟨z, its, n, r, hl, e⟩ := I.lstM hH
  refine call_meets F.slot_list_append ⟨_, e, rfl⟩ F.entry_list_append (F.args_list_append_2 _ _) (PySem.list_append l its.toArray n u (by rw [List.size_toArray]; omega)) ⟨e, ?_⟩
  refine ⟨.non, _, I.lset (its' := its ++ [u]) hH e (by simp) (r.append (.cons ru .nil)) ?_, rfl, q⟩
  rw [List.length_append, List.length_singleton]
  omega
noncomputable def rExtend : V → List V → Hp → VK → Prop := fun x vs H Q => ∃ l b xs zs, x = .ref l ∧ vs = [.ref b] ∧ H l = some (.lst xs) ∧ H b = some (.lst zs) ∧ xs.length + zs.length ≤ sizeLine ∧ Q .non (upd H l (.lst (xs ++ zs)))
theorem mt_extend : MtM X "list.extend" rExtend := by
  intro pins s σ H x vs v us Q I rx rv h
  obtain ⟨l, b, xs, zs, rfl, rfl, hH, hB, hz, q⟩ := h
  cases rx
  obtain ⟨u, rfl, ru⟩ := rv.one
  cases ru
  obtain ⟨z, its, n, r, hl, e⟩ := I.lstM hH
  obtain ⟨z2, its2, n2, r2, hl2, e2⟩ := I.lstM hB
  have hsz : its.toArray.size + its2.toArray.size ≤ sizeLine := by rw [List.size_toArray, List.size_toArray]; omega
  have hlong : ¬ (!its.toArray.isEmpty && Builtin.List.listTooLong (its.toArray.size + its2.toArray.size)) = true := by
    rw [notLongL hsz, Bool.and_false]
    exact Bool.false_ne_true
  refine call_meets F.slot_list_extend ⟨_, e, rfl⟩ F.entry_list_extend (F.args_list_extend_2 _ _)
    (AutoSeq1.list_extend_list_list_0 l its.toArray n b its2.toArray n2 hlong (by rw [List.size_toArray]; omega) (by omega)) ⟨e, e2, ?_⟩
  refine ⟨.non, _, I.lset (its' := its ++ its2) hH e (by simp) (r.append r2) ?_, rfl, q⟩
  rw [List.length_append]
  omega
inductive rPopAt (x : V) (vs : List V) (H : Hp) (Q : VK) : Prop
  | mk (l : Addr) (xs : List V) (i : Int) (k : Nat) (y : V) (ex : x = .ref l) (ev : vs = [.int i]) (h : H l = some (.lst xs)) (z : -(2 ^ 63) ≤ i) (z' : i < 2 ^ 63) (s : seqIndex? i xs.length = some k) (g : xs[k]? = some y) (q : Q y (upd H l (.lst (xs.eraseIdx k)))) : rPopAt x vs H Q
theorem mt_popAt : MtM X "list.pop" rPopAt := by
  intro pins s σ H x vs v us Q I rx rv h
  obtain ⟨l, xs, i, k, y, rfl, rfl, hH, h1, h2, hk, hy, q⟩ := h
  cases rx
  obtain ⟨u, rfl, ru⟩ := rv.one
  obtain ⟨t, rfl⟩ := ru
  obtain ⟨z, its, n, r, hl, e⟩ := I.lstM hH
  obtain ⟨w, hw, rw'⟩ := r.get hy
  refine call_meets F.slot_list_pop ⟨_, e, rfl⟩ F.entry_list_pop (F.args_list_pop_2 _ _)
    (MeetsSeq.list_pop_at l its.toArray n i t k w (fitsIndex_both h1 h2) (by rw [List.size_toArray, ← hl]; exact hk) (by rw [← Array.getElem?_toList]; exact hw) (by rw [List.size_toArray]; omega)) ⟨e, ?_⟩
  refine ⟨y, _, I.lset (its' := its.eraseIdx k) hH e ?_ (r.eraseIdx k) ?_, rw', q⟩
  · show its.toArray.eraseIdxIfInBounds k = (its.eraseIdx k).toArray
    rw [List.eraseIdxIfInBounds_toArray]
  · have := len_erase xs k
    omega
noncomputable def rReverse : V → List V → Hp → VK → Prop := fun x vs H Q => ∃ l xs, x = .ref l ∧ vs = [] ∧ H l = some (.lst xs) ∧ Q .non (upd H l (.lst xs.reverse))
theorem mt_reverse : MtM X "list.reverse" rReverse := by
  intro pins s σ H x vs v us Q I rx rv h
  obtain ⟨l, xs, rfl, rfl, hH, q⟩ := h
  cases rx
  have hus := rv.zero
  subst hus
  obtain ⟨z, its, n, r, hl, e⟩ := I.lstM hH
  refine call_meets F.slot_list_reverse ⟨_, e, rfl⟩ F.entry_list_reverse (F.args_list_reverse_1 _) (AutoSeq1.list_reverse_list_0 l its.toArray n (by rw [List.size_toArray]; omega)) ⟨e, ?_⟩
  refine ⟨.non, _, I.lset (its' := its.reverse) hH e (by simp) r.reverse ?_, rfl, q⟩
  rw [List.length_reverse]
  omega
end
section
variable {prog : Program} {w : World} {A : Around} {E : Value → Shared → Prop} {s : Shared}
set_option maxRecDepth 100000 in
end
section
variable {X : Cx}
end
end L2
namespace Att
open PySem PySem.W PySem.Calls PyProof.Rows
theorem ints_of_wellAll {P : Params} {h : Heap} : ∀ (ns : List Int) (vs : List Value), WellAll P h vs (ns.map WData.int) → IntsAre vs ns := by
  intro ns
  induction ns with
  | nil =>
    intro vs w
    rw [List.map_nil] at w
    cases w
    exact .nil
  | cons n ns ih =>
    intro vs w
    rw [List.map_cons] at w
    cases w with
    | cons a b =>
      cases a
      exact .cons _ _ (ih _ b)
theorem script_of {l : OpenLaw} {n : Nat} (hn : l.most = some n) {P : Params} {h : Heap} {args : List WData} {vals : List Value}
    (hpre : l.row.toRowW.claim.pre args = true) (hwl : WellAll P h vals args) :
    ∃ a vs ns, vals = [Value.ref a] ∧ args = [WData.list (ns.map WData.int)] ∧ h.get? a = some { cls := .type "list", data := .seq vs.toArray } ∧ IntsAre vs ns ∧ ns.length ≤ n := by
  have hsh : WShape.hasAll [] args [.list .int] = true := (pre_splitW hpre).1
  have hc : l.pre.holds [] { args := args } = true := (pre_splitW hpre).2
  obtain ⟨d, r, rfl, h1, h2⟩ := hasAllW_cons hsh
  obtain rfl := hasAllW_nil h2
  obtain ⟨xs, rfl, h3⟩ := hasW_list h1
  obtain ⟨ns, rfl⟩ := items_int h3
  have hlen : ns.length ≤ n := by
    unfold OpenLaw.pre at hc
    have h4 : (WTm.not (.lt (.lit (.int (n : Int))) (.len (.arg 0)))).holds [] { args := [.list (ns.map .int)] } = true := by
      have h4 := (holds_andW hc).1
      rw [hn] at h4
      exact h4
    have h5 := condW_of h4 (w_not (w_lt w_lit (w_len_list (w_arg rfl))))
    rw [List.length_map] at h5
    refine Nat.le_of_not_lt fun q => ?_
    have q' : (n : Int) < ((ns.length : Nat) : Int) := by omega
    first
      | (rw [decide_eq_true q'] at h5; exact absurd h5 (by decide))
      | (simp at h5; omega)
  cases hwl with
  | cons w1 w2 =>
    cases w2
    cases w1 with
    | list ho hall => exact ⟨_, _, ns, rfl, rfl, ho, ints_of_wellAll ns _ hall, hlen⟩
theorem post_true (l : OpenLaw) (args : List WData) : l.row.toRowW.claim.post args (.bool true) args = true :=
  postW_of (r := l.row.toRowW) (X := (true == true))
    (show WShape.has [] (.bool true) .bool = true by first | rfl | decide | simp [WShape.has, WShape.arms, WShape.armsAll])
    (show (WTm.eq .res (.lit (.bool true))).value [] { args := args, res := some (.bool true), after := args } = some (.bool (true == true)) from w_eq_bool (w_res rfl) w_lit) rfl
theorem attach_call {l : OpenLaw} {n : Nat} {q : Program} {loose : List Str} {XP : (Str → Option Value) → Heap → Prop} {YP : World → Heap → Prop} {d : DefRec}
    (hn : l.most = some n) (hdf : d.params.defaults = [])
    (call : ∀ (w : World) (s₀ s₁ : Shared) (mg mb : Str → Option Value) (fa : Addr) (o : Obj) (pm cd doc : Value) (a : Addr) (vs : List Value) (ns : List Int),
      Ground q loose [] XP w s₀ mg mb s₁.heap → YP w s₁.heap →
      s₁.heap.get? fa = some o → o.data = .func (docDef d.name d.params d.body d.scope pm cd doc) → s₁.heap.CodeRec cd d.name → mg d.name = some (.ref fa) →
      s₁.heap.get? a = some { cls := .type "list", data := .seq vs.toArray } → IntsAre vs ns → ns.length ≤ n → s₁.gens = #[] →
      codeAny (model l.prog w) callerA (.call (.ref fa) ⟨[.ref a], []⟩) (fun r s' => r = .ok (.ret (.bool true)) ∧ OldK s₁.heap s'.heap ∧ s'.os = s₁.os ∧ AllBare s'.gens) s₁) :
    WalkO q loose XP YP l.row.toRowW d [] (fun f vs => PySem.call f vs) := by
  intro w s₀ s₁ mg mb G Y fa o pm cd doc dV kV ho hd hcd hD hmg hg args vals as hpre hlay hrd hwl hlo
  obtain rfl : dV = .none := Dflts.none hD hdf
  obtain rfl : kV = .none := Dflts.noKw hD
  obtain ⟨a, vs, ns, rfl, rfl, hobj, hints, hlen⟩ := script_of hn hpre hwl
  refine enter_call (codeAny_mono (call w s₀ s₁ mg mb fa o pm cd doc a vs ns G Y ho (fd_plain hd) hcd hmg hobj hints hlen hg) fun r s' hq => ?_)
  obtain ⟨rfl, h2, h3, h4⟩ := hq
  exact ⟨.inl ⟨.bool true, .bool true, [], rfl, fun _ => rfl, .bool true, post_true l _, fun _ => ⟨List.Pairwise.nil, fun _ hm => (nomatch hm)⟩⟩, h2, h3, h4⟩
section
variable {prog : Program} {w : World} {A : Around} {E : Value → Shared → Prop} {s : Shared} {K : Frag}
end
end Att
namespace L2
open PySem PySem.Spec PyProof.Rows
theorem vals_ints : ∀ {vs : List Value} {ns : List Int}, IntsAre vs ns → Vals (ns.map V.int) vs
  | _, _, .nil => .nil
  | _, _, .cons n t h => .cons ⟨t, rfl⟩ (vals_ints h)
noncomputable def Only (H : Hp) : Prop := ∀ b, H b = none ∨ ∃ o xs, H b = some (.frz o (.lst xs))
theorem law_call {P : Program} {w : World} {K : PySem.W.Frag} {mg mb : Str → Option Value} {CX : CXT} {k : Nat} {fa a : Addr} {fd : FuncData} {x : Str} {sp : Sp} {s₁ : Shared} {vs : List Value} {ns : List Int}
    (KX : K.In s₁.heap) (hns : s₁.heap.Ns mainGlobals mg) (hb : s₁.heap.Ns builtinsNs mb) (hbb : ∀ x : Str, x ≠ "__name__" → mb x = bootBuiltins x) (hlim : s₁.heap.NoLimit) (hg : s₁.gens = #[])
    (ha : s₁.heap.get? a = some { cls := .type "list", data := .seq vs.toArray }) (hi : IntsAre vs ns) (hl : ns.length ≤ sizeLine) (hr : Room k callerA)
    (F : ∀ base : Heap, K.In base → base.Ns mainGlobals mg → FnOk P w K mg base CX k fa fd [x] sp) (hbind : ∀ (s : Shared) (u : Value), BindsTo s fd ⟨[u], []⟩ [(x, u)])
    (hsp : ∀ H : Hp, Only H → SqL K H a (ns.map V.int) → sp [.ref a] H (fun v _ => v = .bl true) fun _ _ _ => False)
    (hCX : ∀ H e s', CX [] H s₁ (fun _ _ _ => False) e s' → False) :
    codeAny (model P w) callerA (.call (.ref fa) ⟨[.ref a], []⟩) (fun r s' => r = .ok (.ret (.bool true)) ∧ OldK s₁.heap s'.heap ∧ s'.os = s₁.os ∧ AllBare s'.gens) s₁ := by
  have rv := vals_ints hi
  have lenV := hi.length
  have core : ∀ H : Hp, Only H → SqL K H a (ns.map V.int) → HOk P w H s₁.heap → (∀ b, H b ≠ none → b = a) → (H a ≠ none → K.lookup a = none) →
      codeAny (model P w) callerA (.call (.ref fa) ⟨[.ref a], []⟩) (fun r s' => r = .ok (.ret (.bool true)) ∧ OldK s₁.heap s'.heap ∧ s'.os = s₁.os ∧ AllBare s'.gens) s₁ := by
    intro H hO hS hok hA hK
    have base_of : ∀ {b : Addr} {o : Obj}, s₁.heap.get? b = some o → H b = none → (hidT s₁.heap H).get? b = some o := fun e n => hidT_get e n
    have noA : ∀ {b : Addr} {o : Obj} {es : Array DictEntry} {ep : Nat}, s₁.heap.get? b = some o → o.data = .dict es ep → H b = none := fun {b o es ep} e d => by
      cases q : H b with
      | none => rfl
      | some u =>
        have e' : b = a := hA b (by rw [q]; simp)
        subst e'
        rw [ha] at e; cases e
        have d' : Data.seq vs.toArray _ = Data.dict es ep := d
        cases d'
    have nsK : ∀ {b : Addr} {m : Str → Option Value}, s₁.heap.Ns b m → (hidT s₁.heap H).Ns b m := fun {b m} ⟨o, es, ep, e, d, r⟩ => ⟨o, es, ep, base_of e (noA e d), d, r⟩
    have hKb : K.In (hidT s₁.heap H) := fun b o e => base_of (KX b o e) (by
      cases q : H b with
      | none => rfl
      | some u =>
        have e' : b = a := hA b (by rw [q]; simp)
        subst e'
        rw [hK (by rw [q]; simp)] at e; cases e)
    have hM : Mod K mg (hidT s₁.heap H) := ⟨hKb, nsK hns, ⟨mb, nsK hb, hbb⟩, let ⟨mc, h1, h2⟩ := hlim; ⟨mc, nsK h1, h2⟩⟩
    have e0 : Env0 P w K mg (hidT s₁.heap H) callerA [] s₁ H := ⟨rfl, hM, fun b o e => of_hidT e, Nat.le_of_eq (hidT_size _ _), trivial, fun b hb => absurd (show b ∈ ([] : List Addr) from hb) (by simp), hok, .of_eq hg⟩
    refine codeAny_mono ((F _ hKb (nsK hns)).run callerA [] s₁ H ⟨[.ref a], []⟩ [.ref a] [.ref a] _ _ hr e0 (hbind s₁ (.ref a)) (.cons rfl .nil) (hsp H hO hS)) fun r s' h => ?_
    cases r with
    | error e => exact (hCX H e s' h).elim
    | ok fl =>
      cases fl with
      | next => exact False.elim h
      | brk => exact False.elim h
      | cont => exact False.elim h
      | ret u =>
        obtain ⟨v, H', os, bare, un, hok', r', q⟩ := h
        have q' : v = .bl true := q
        subst q'
        obtain rfl : u = Value.bool true := r'
        refine ⟨rfl, OldK.of_keep fun b o e => ?_, os, bare⟩
        cases q : H b with
        | none => exact un.keep b o e q (by intro z; exact absurd (show b ∈ ([] : List Addr) from z) (by simp)) (by simp)
        | some u =>
          rcases hO b with z | ⟨ob, xs, z⟩
          · rw [q] at z; cases z
          · have z2 := un.frzs b ob _ z
            obtain ⟨e1, _⟩ := hok b _ z
            obtain ⟨e2, _⟩ := hok' b _ z2
            rw [e] at e1; cases e1
            exact e2
  cases hk : K.lookup a with
  | some o =>
    have e := KX a o hk
    rw [ha] at e
    cases e
    refine core (fun _ => none) (fun _ => .inl rfl) (.inr ⟨_, vs.toArray, _, hk, rfl, rfl, rfl, by rw [List.size_toArray, lenV]; exact hl, by simpa using rv⟩) (fun b u z => by have z' : (none : Option HO) = some u := z; cases z') (fun b z => absurd rfl z) fun z => absurd rfl z
  | none =>
    refine core (fun b => if b = a then some (.frz { cls := .type "list", data := .seq vs.toArray } (.lst (ns.map V.int))) else none) (fun b => ?_) (.inl (.inr ⟨{ cls := .type "list", data := .seq vs.toArray }, if_pos rfl⟩)) (fun b u z => ?_) (fun b z => ?_) fun _ => hk
    · by_cases hb : b = a
      · exact .inr ⟨_, _, if_pos hb⟩
      · exact .inl (if_neg hb)
    · by_cases hb : b = a
      · have z' := (if_pos hb).symm.trans z
        cases z'
        subst hb
        exact ⟨ha, by rw [List.length_map]; exact hl, vs, _, rv, ha⟩
      · have z' := (if_neg hb).symm.trans z
        cases z'
    · by_cases hb : b = a
      · exact hb
      · exact absurd (if_neg hb) z
end L2
namespace L2
open PySem PySem.Spec PyProof.Rows
theorem walk_of {l : PySem.W.OpenLaw} {n k : Nat} {q : Program} {loose : List Str} {XP : (Str → Option Value) → Heap → Prop} {YP : World → Heap → Prop} {d : DefRec} {K : Params → PySem.W.Frag} {CX : World → CXT} {sp : World → Sp} {x : Str}
    (hn : l.most = some n) (hn2 : n ≤ sizeLine) (hdf : d.params.defaults = []) (hr : Room k callerA)
    (hY : ∀ (w : World) (h : Heap), YP w h → (K w.params).In h)
    (F : ∀ (w : World) (mg : Str → Option Value) (fa : Addr) (h : Heap), (K w.params).In h → h.Ns mainGlobals mg → mg d.name = some (.ref fa) →
      ∃ fd : FuncData, (∀ (s : Shared) (u : Value), BindsTo s fd ⟨[u], []⟩ [(x, u)]) ∧
        ∀ base : Heap, (K w.params).In base → base.Ns mainGlobals mg → FnOk l.prog w (K w.params) mg base (CX w) k fa fd [x] (sp w))
    (hsp : ∀ (w : World) (H : Hp) (a : Addr) (ns : List Int), ns.length ≤ n → Only H → SqL (K w.params) H a (ns.map V.int) → sp w [.ref a] H (fun v _ => v = .bl true) fun _ _ _ => False)
    (hCX : ∀ (w : World) (H : Hp) (s : Shared) (e : Value) (s' : Shared), CX w [] H s (fun _ _ _ => False) e s' → False) :
    PySem.W.WalkO q loose XP YP l.row.toRowW d [] (fun f vs => PySem.call f vs) := by
  refine Att.attach_call hn hdf fun w s₀ s₁ mg mb fa o pm cd doc a vs ns G Y ho hd hcd hmg hobj hints hlen hg => ?_
  have KX := hY w _ Y
  obtain ⟨fd, hb, hF⟩ := F w mg fa _ KX G.T.g hmg
  exact law_call KX G.T.g G.T.b G.T.builtins G.T.nolimit hg hobj hints (Nat.le_trans hlen hn2) hr hF hb (fun H hO hS => hsp w H a ns hlen hO hS) fun H e s' => hCX w H s₁ e s'
end L2
namespace L2
open PySem PySem.Spec PyProof.Rows
noncomputable def defArgs (s : Stmt) : Arguments := match s with
  | .FunctionDef _ a _ _ _ _ _ _ _ _ => a
  | _ => { posonlyargs := [], args := [], vararg := none, kwonlyargs := [], kw_defaults := [], kwarg := none, defaults := [] }
noncomputable def defBody (s : Stmt) : List Stmt := match s with
  | .FunctionDef _ _ b _ _ _ _ _ _ _ => b
  | _ => []
noncomputable def defScope (s : Stmt) : Scope := match s with
  | .FunctionDef _ _ _ _ _ _ sc _ _ _ => sc
  | _ => { kind := .function, names := [], isGenerator := false, isCoroutine := false }
noncomputable abbrev E0 : XK := fun _ _ _ => False
structure Fun (K : PySem.W.Frag) (x qual : Str) (st : Stmt) (f : Addr) (fd : FuncData) : Prop where
  ex : ∃ (oc : Value) (od : Option Addr) (kV doc pm : Value) (an : Option Addr) (cdv ct : Value) (osl : Array (Option Value)),
    fd = PySem.W.fnOf x qual (defArgs st) (defBody st) (defScope st) .none kV doc pm an cdv ct ∧ K.lookup f = some ⟨oc, od, .func fd, osl⟩ ∧ PySem.W.codeIn K cdv qual = true
  kp : PySem.W.keepIn K (.ref f) = true
section
variable {P : Program} {w : World} {K : PySem.W.Frag} {mg : Str → Option Value} {base : Heap}
theorem Fun.binds {x qual : Str} {st : Stmt} {f : Addr} {fd : FuncData} {ps : List Str} (F : Fun K x qual st f fd)
    (h : ∀ (kV doc pm : Value) (an : Option Addr) (cdv ct : Value) (us : List Value), us.length = ps.length → bindArgs (PySem.W.fnOf x qual (defArgs st) (defBody st) (defScope st) .none kV doc pm an cdv ct) ⟨us, []⟩ = pure (ps.zip us)) : Binds K fd ps [] := by
  obtain ⟨oc, od, kV, doc, pm, an, cdv, ct, osl, rfl, lk, hcd⟩ := F.ex
  exact .all (h kV doc pm an cdv ct)
theorem fun_mk {x qual : Str} {st : Stmt} {f : Addr} {oc : Value} {od an : Option Addr} {osl : Array (Option Value)} {kV doc pm cdv ct : Value} (l : K.lookup f = some ⟨oc, od, .func (PySem.W.fnOf x qual (defArgs st) (defBody st) (defScope st) .none kV doc pm an cdv ct), osl⟩)
    (c : PySem.W.codeIn K cdv qual = true) (k : PySem.W.keepIn K (.ref f) = true) : Fun K x qual st f (PySem.W.fnOf x qual (defArgs st) (defBody st) (defScope st) .none kV doc pm an cdv ct) := ⟨⟨oc, od, kV, doc, pm, an, cdv, ct, osl, rfl, l, c⟩, k⟩
end
section
variable {X : Cx}
theorem pv (i : Nat) {x : Str} {pos : Pos} (hN : X.N[i]? = some x := by rfl) (hv : Vis X.env.scope x := by first | exact Or.inl rfl | exact Or.inr (Or.inl rfl) | exact Or.inr (Or.inr rfl)) (hd : (x == ("__debug__" : Str)) = false := by decide)
    (hcd : (x == ("__classdict__" : Str)) = false := by decide) : PE X (.Name x pos) (tVar i) := pe_var hN hv hd hcd
end
theorem iteF {A B : Prop} (h : B) : if false = true then A else B := by
  rw [if_neg Bool.false_ne_true]
  exact h
theorem iteT {A B : Prop} (h : A) : if true = true then A else B := by
  rw [if_pos rfl]
  exact h
theorem ite2 {c A B : Prop} [Decidable c] (h1 : c → A) (h2 : ¬ c → B) : if c then A else B := by
  by_cases h : c
  · rw [if_pos h]
    exact h1 h
  · rw [if_neg h]
    exact h2 h
noncomputable def Same (H H' : Hp) : Prop := ∀ b o, H b = some o → H' b = some o
theorem Same.refl (H : Hp) : Same H H := fun _ _ h => h
theorem Same.trans {H H1 H2 : Hp} (a : Same H H1) (b : Same H1 H2) : Same H H2 := fun c o h => b c o (a c o h)
theorem Same.free {H H' : Hp} (e : Same H H') {l : Addr} (h : H' l = Option.none) : H l = Option.none := by
  cases q : H l with
  | none => rfl
  | some o =>
    rw [e l o q] at h
    cases h
theorem Same.seq {K : PySem.W.Frag} {H H' : Hp} {a : Addr} {xs : List V} (e : Same H H') (h : SqL K H a xs) : SqL K H' a xs := by
  rcases h with (h | ⟨o, h⟩) | h
  · exact .inl (.inl (e _ _ h))
  · exact .inl (.inr ⟨o, e _ _ h⟩)
  · exact .inr h
end L2
set_option Elab.async false
set_option linter.all false
set_option maxRecDepth 100000
namespace L2
open PySem
noncomputable def DK (h h' : Heap) : Prop := ∀ (b : Nat) (o : Obj), h.objs[b]? = some o → ∃ o' : Obj, h'.objs[b]? = some o' ∧ o'.dict = o.dict
theorem DK.refl (h : Heap) : DK h h := fun _ o e => ⟨o, e, rfl⟩
theorem DK.trans {h h1 h2 : Heap} (k : DK h h1) (l : DK h1 h2) : DK h h2 := fun b o e => by
  obtain ⟨o1, e1, d1⟩ := k b o e
  obtain ⟨o2, e2, d2⟩ := l b o1 e1
  exact ⟨o2, e2, d2.trans d1⟩
theorem DK.push {h h' : Heap} {o : Obj} (k : DK h h') : DK h (h'.push o) := fun b ob e => by
  obtain ⟨o', e', d⟩ := k b ob e
  obtain ⟨objs, l⟩ := h'
  have lt : b < objs.size := (Array.getElem?_eq_some_iff.mp e').1
  exact ⟨o', by show (objs.push o)[b]? = some o'; rw [Array.getElem?_push_lt lt, ← e']; exact (Array.getElem?_eq_getElem lt).symm, d⟩
theorem DK.update {h h' : Heap} {a : Addr} {f : Obj → Obj} (k : DK h h') (hf : ∀ o, (f o).dict = o.dict) : DK h (h'.update a f) := fun b ob e => by
  obtain ⟨o', e', d⟩ := k b ob e
  obtain ⟨objs, l⟩ := h'
  show ∃ o'', (objs.modify a f)[b]? = some o'' ∧ _
  rw [Array.getElem?_modify]
  have e' : objs[b]? = some o' := e'
  by_cases hab : a = b
  · rw [if_pos hab, e']; exact ⟨f o', rfl, (hf o').trans d⟩
  · rw [if_neg hab]; exact ⟨o', e', d⟩
theorem DK.get {h h' : Heap} (k : DK h h') {b : Addr} {o o' : Obj} (e : h.get? b = some o) (e' : h'.get? b = some o') : o'.dict = o.dict := by
  obtain ⟨o1, e1, d⟩ := k b o (Heap.get?_some_iff.mp e).1
  have := (Heap.get?_some_iff.mp e').1
  rw [e1] at this; cases this; exact d
noncomputable def KD {α : Type} : Sem α → Prop
  | .pure _ => True
  | .raise _ => True
  | .unsupported _ => True
  | .finish _ => True
  | .rule _ k => KD (k ())
  | .at _ k => KD (k ())
  | .load _ _ k => ∀ o, KD (k o)
  | .update _ _ f k => (∀ o, (f o).dict = o.dict) ∧ KD (k ())
  | .alloc _ k => ∀ a, KD (k a)
  | .loadIfAlive _ k => ∀ o, KD (k o)
  | .point _ k => KD (k ())
  | .register _ k => KD (k ())
  | .fresh k => ∀ a, KD (k a)
  | .ask k => ∀ a, KD (k a)
  | .choose _ _ k => ∀ a, KD (k a)
  | .os _ _ k => ∀ a, KD (k a)
  | .call .. => False
  | .handled _ k => ∀ a, KD (k a)
  | .newGen _ k => ∀ a, KD (k a)
  | .genState _ k => ∀ a, KD (k a)
  | .resume .. => False
  | .yield .. => False
  | .stack k => ∀ a, KD (k a)
  | .fork .. => False
  | .thread k => ∀ a, KD (k a)
  | .await .. => False
theorem KD.bind {α β : Type} : ∀ {m : Sem α} {f : α → Sem β}, KD m → (∀ a, KD (f a)) → KD (m >>= f) := by
  intro m f hm hf
  show KD (m.bind f)
  induction m with
  | pure a => exact hf a
  | raise | unsupported | finish => exact True.intro
  | rule _ k ih | «at» _ k ih | point _ k ih | register _ k ih => exact ih () hm
  | update _ _ g k ih => exact ⟨hm.1, ih () hm.2⟩
  | load _ _ k ih | alloc _ k ih | loadIfAlive _ k ih | fresh k ih | ask k ih | choose _ _ k ih | os _ _ k ih | handled _ k ih | newGen _ k ih | genState _ k ih | stack k ih | thread k ih => exact fun a => ih a (hm a)
  | call | resume | yield | fork | await => exact False.elim hm
theorem wp_kd {α : Type} {M : Model} {Γ : Ctx} {Q : α → Pos → Shared → Prop} {E : Value → Pos → Shared → Prop} {h0 : Heap} : ∀ (t : Sem α), KD t → ∀ (p : Pos) (s : Shared), DK h0 s.heap → Sem.wp M Γ t Q E p s →
    Sem.wp M Γ t (fun a p' s' => Q a p' s' ∧ DK h0 s'.heap) (fun e p' s' => E e p' s' ∧ DK h0 s'.heap) p s := by
  intro t
  induction t with
  | pure a => exact fun _ p s k h => ⟨h, k⟩
  | raise e => exact fun _ p s k h => ⟨h, k⟩
  | unsupported | finish | yield | fork | await | register => exact fun _ _ _ _ h => h
  | rule _ k ih | «at» _ k ih | point _ k ih => exact fun hk p s d h => ih () hk _ s d h
  | fresh k ih | os _ _ k ih | newGen _ k ih => exact fun hk p s d h => ih _ (hk _) p _ d h
  | ask k ih | handled _ k ih | stack k ih | thread k ih | loadIfAlive _ k ih => exact fun hk p s d h => ih _ (hk _) p s d h
  | alloc o k ih => exact fun hk p s d h => ih _ (hk _) p _ d.push h
  | load a _ k ih | genState a k ih => exact fun hk p s d ⟨o, ho, h⟩ => ⟨o, ho, ih _ (hk _) p s d h⟩
  | update a _ f k ih => exact fun hk p s d ⟨ha, h⟩ => ⟨ha, ih _ hk.2 p _ (d.update hk.1) h⟩
  | choose _ _ k ih => exact fun hk p s d ⟨ha, h⟩ => ⟨ha, ih _ (hk _) p _ d h⟩
  | call | resume => exact fun hk => False.elim hk
theorem wpAny_kd {α : Type} {M : Model} {A : Around} {t : Sem α} {Q : α → Shared → Prop} {E : Value → Shared → Prop} {s : Shared} (k : KD t) (h : wpAny M A t Q E s) :
    wpAny M A t (fun a s' => Q a s' ∧ DK s.heap s'.heap) (fun e s' => E e s' ∧ DK s.heap s'.heap) s := fun Γ p hΓ => wp_kd t k p s (DK.refl _) (h Γ p hΓ)
theorem wpAny_dkQ {α : Type} {M : Model} {A : Around} {t : Sem α} {Q : α → Shared → Prop} {E : Value → Shared → Prop} {s : Shared} (k : KD t) (h : wpAny M A t (fun a s' => DK s.heap s'.heap → Q a s') E s) : wpAny M A t Q E s :=
  wpAny_mono (wpAny_kd k h) (fun _ _ x => x.1 x.2) fun _ _ x => x.1
theorem KD.ite {α : Type} {c : Prop} [Decidable c] {x y : Sem α} (hx : KD x) (hy : KD y) : KD (if c then x else y) := by split <;> assumption
theorem kd_load {α : Type} {a : Addr} {f : Obj → Sem α} (h : ∀ o, KD (f o)) : KD (load a >>= f) := KD.bind (fun o => True.intro) h
theorem kd_field {v : Value} {i : Nat} : KD (field v i) := by
  unfold field
  refine KD.bind ?_ fun a => by split <;> exact True.intro
  unfold fieldsOf
  split
  · refine KD.bind (fun o => True.intro) fun o => ?_
    split <;> exact True.intro
  · exact True.intro
theorem dict_mapFields (f : Array Value → Array Value) (o : Obj) : (Obj.mapFields f o).dict = o.dict := by
  obtain ⟨c, d, dt, sl⟩ := o
  cases dt <;> rfl
theorem kd_setField {v x : Value} {i : Nat} : KD (setField v i x) := by
  unfold setField
  split
  · refine kd_load fun o => ?_
    split
    · exact KD.ite ⟨dict_mapFields _, True.intro⟩ True.intro
    · exact True.intro
  · exact True.intro
theorem kd_setFlight {e : Value} {f : Option Addr} : KD (setFlight e f) := by
  unfold setFlight
  exact KD.bind kd_field fun a => KD.ite kd_setField True.intro
theorem kd_ready : ∀ (l : List Env), KD (readyFrames l)
  | [] => True.intro
  | env :: outer => by
    unfold readyFrames
    split
    · refine kd_load fun o => KD.ite True.intro (KD.bind ?_ fun im => KD.bind ?_ fun bk => KD.bind ⟨fun o => rfl, True.intro⟩ fun _ => kd_ready outer)
      · unfold behindIsImport
        exact KD.ite True.intro (KD.ite True.intro (KD.bind kd_field fun _ => True.intro))
      · unfold keptBack
        split
        · refine KD.ite True.intro ?_
          unfold underTheClaimsCaller
          exact KD.bind (KD.bind (fun a => True.intro) fun _ => True.intro) fun _ => True.intro
        · exact True.intro
    · exact True.intro
theorem kd_frameOf {env : Env} : KD (frameOf env) := by
  unfold frameOf
  refine KD.bind (KD.bind (fun _ => True.intro) fun _ => True.intro) fun l => KD.bind ?_ fun o => by split <;> exact True.intro
  unfold frameObject
  split
  · exact True.intro
  · exact KD.bind (kd_ready _) fun _ => True.intro
theorem kd_entryPlaceOf {f : Addr} {b : Bool} : KD (entryPlaceOf f b) := by
  unfold entryPlaceOf
  refine KD.bind (fun _ => True.intro) fun l => ?_
  split <;> exact True.intro
theorem kd_newEntry {a b c d e : Value} {l : List Value} : KD (EntryCells.newEntry a b c d e l) := by
  unfold EntryCells.newEntry newFields newObj
  show KD (if _ then _ else _)
  refine KD.ite ?_ ?_
  · exact True.intro
  · exact fun _ => True.intro
theorem kd_entry {e a : Value} {env : Env} {f : Addr} {b : Bool} {x : Value} : KD (do let u ← frameOf env; let v ← entryPlaceOf f b; let w ← EntryCells.newEntry a u .none x .none v; setField e 1 w) :=
  KD.bind kd_frameOf fun _ => KD.bind kd_entryPlaceOf fun _ => KD.bind kd_newEntry fun _ => kd_setField
theorem kd_noteFrame {e : Value} {env : Env} : KD (noteFrame e env) := by
  unfold noteFrame
  split
  · exact KD.bind kd_field fun a => KD.ite (KD.bind kd_field fun _ => KD.ite True.intro (KD.bind kd_setField fun _ => kd_entry)) kd_entry
  · exact True.intro
theorem kd_leaving {e : Value} {env : Env} : KD (leaving env e) := by
  unfold leaving
  exact KD.bind kd_noteFrame fun _ => kd_setFlight
noncomputable def Dx (o : Obj) (d : Option Addr) : Prop := ∀ a, d = some a → o.dict = some a
theorem Dx.none {o : Obj} : Dx o none := fun _ z => nomatch z
theorem Dx.dk {h h' : Heap} {b : Addr} {o o' : Obj} {d : Option Addr} (x : Dx o d) (e : h.get? b = some o) (e' : h'.get? b = some o') (k : DK h h') : Dx o' d := fun a z => (k.get e e').trans (x a z)
end L2
set_option Elab.async false
set_option linter.all false
set_option maxRecDepth 100000
set_option maxHeartbeats 2000000
namespace L2
open PySem PySem.Spec PyProof.Rows
theorem ObjOk.isThere {P : Program} {w : World} {H : Hp} {h : Heap} {a : Addr} {o : HO} (x : ObjOk P w H h a o) : ∃ ob, h.get? a = some ob := by
  cases o with
  | lst xs => obtain ⟨_, _, _, _, e⟩ := x; exact ⟨_, e⟩
  | tup xs => obtain ⟨_, _, _, ob, e, _⟩ := x; exact ⟨ob, e⟩
  | dK kvs => obtain ⟨_, _, _, _, ob, _, _, e, _⟩ := x; exact ⟨ob, e⟩
  | dT kvs => obtain ⟨_, _, _, _, ob, _, _, e, _⟩ := x; exact ⟨ob, e⟩
  | set S n => obtain ⟨ob, _, _, _, e, _⟩ := x; exact ⟨ob, e⟩
  | ins C dx fs => obtain ⟨_, _, _, e, _⟩ := x; exact ⟨_, e⟩
  | own y => exact x
  | xd fs => obtain ⟨_, ⟨ob, _, _, e, _⟩, _⟩ := x; exact ⟨ob, e⟩
  | rng lo hi => obtain ⟨_, _, _, e⟩ := x; exact ⟨_, e⟩
  | frz ob u => obtain ⟨e, _⟩ := x; exact ⟨_, e⟩
  | tbl ps => exact ⟨_, (show h.get? a = some _ from x)⟩
  | met f y => exact ⟨_, (show h.get? a = some _ from x)⟩
  | ext φ => obtain ⟨_, e, _⟩ := x; exact e
section
variable {X : Cx} {pins : List (Addr × Obj)} {σ : List (Option V)} {H H' : Hp} {s : Shared} {h' : Heap}
theorem Inv.step2 {g' : Array GenState} {t' : Nat} {d' : Drawn} {ch : List Addr} (I : Inv X pins σ H s)
    (hch : ∀ b ∈ ch, (b ∈ X.ex ∨ X.s₀.heap.get? b = none) ∧ b ≠ X.env.locals ∧ (∀ x c, X.env.cells.lookup x = some c → c ≠ b) ∧ ∀ p ∈ X.pn ++ pins, p.1 ≠ b)
    (keep : ∀ b o, b ≠ X.env.locals → b ∉ X.fs → b ∉ ch → s.heap.get? b = some o → H b = none → h'.get? b = some o)
    (slot : ∀ b o, b ≠ X.env.locals → b ∈ X.fs → b ∉ ch → s.heap.get? b = some o → H b = none → ∃ sl, h'.get? b = some { o with slots := sl }) (free : ∀ b o, b ∉ ch → s.heap.get? b = some o → H b = none → H' b = none)
    (there : ∀ b o, b ∉ ch → s.heap.get? b = some o → ∃ o', h'.get? b = some o')
    (tups : ∀ b xs, H b = some (.tup xs) → H' b = some (.tup xs)) (frzs : ∀ b o u, H b = some (.frz o u) → H' b = some (.frz o u)) (tbls : ∀ b ps, H b = some (.tbl ps) → ∃ more, H' b = some (.tbl (ps ++ more)))
    (ns : ∀ m, s.heap.Ns X.env.locals m → h'.Ns X.env.locals m) (hok : HOk X.prog X.w H' h') (hg : AllBare g') :
    Inv X pins σ H' { s with heap := h', gens := g', drawn := d', toks := t' } := by
  have neL : ∀ b o, X.s₀.heap.get? b = some o → b ≠ X.env.locals := fun b o e => Nat.ne_of_lt (Nat.lt_of_lt_of_le (Heap.lt_size e) I.ok.above)
  have neC : ∀ b o, X.s₀.heap.get? b = some o → b ∉ X.ex → b ∉ ch := fun b o e hx hb => by
    rcases (hch b hb).1 with z | z
    · exact hx z
    · rw [z] at e; cases e
  have cellK : ∀ x c, X.env.cells.lookup x = some c → ∀ v, s.heap.IsCell c v → h'.IsCell c v := fun x c e v ⟨o, ho, hd⟩ => by
    have nch : c ∉ ch := fun z => (hch c z).2.2.1 x c e rfl
    by_cases hc : c ∈ X.fs
    · obtain ⟨sl, q⟩ := slot c o (I.cne x c e) hc nch ho (I.freeC x c e)
      exact ⟨_, q, hd⟩
    · exact ⟨o, keep c o (I.cne x c e) hc nch ho (I.freeC x c e), hd⟩
  refine ⟨I.ok, I.os, hg, ⟨fun b o e n hb hx => ?_, fun b o e n hb hx => ?_, fun b o e n hx => ?_, fun b o e hx => ?_, fun b xs e => tups b xs (I.base.tups b xs e), fun b o xs e => frzs b o xs (I.base.frzs b o xs e), fun b ps e => ?_⟩, ?_, fun x c e => ?_, ?_, fun x c e => ?_, fun p hp => ?_, hok, I.len⟩
  · exact keep b o (neL b o e) hb (neC b o e hx) (I.base.keep b o e n hb hx) (I.base.free b o e n hx)
  · obtain ⟨sl, e1⟩ := I.base.slot b o e n hb hx
    obtain ⟨sl', e2⟩ := slot b _ (neL b o e) hb (neC b o e hx) e1 (I.base.free b o e n hx)
    exact ⟨sl', e2⟩
  · obtain ⟨o', e1⟩ := I.base.there b o e hx
    exact free b o' (neC b o e hx) e1 (I.base.free b o e n hx)
  · obtain ⟨o', e1⟩ := I.base.there b o e hx
    exact there b o' (neC b o e hx) e1
  · obtain ⟨m1, e1⟩ := I.base.tbls b ps e
    obtain ⟨m2, e2⟩ := tbls b _ e1
    exact ⟨m1 ++ m2, by rw [e2, Array.append_assoc]⟩
  · obtain ⟨m, hn, hl⟩ := I.loc
    refine ⟨m, ns m hn, fun i x v e1 e2 e3 => ?_⟩
    obtain ⟨u, r, l⟩ := hl i x v e1 e2 e3
    refine ⟨u, r, ?_⟩
    rcases l with l | ⟨k, c, e, z⟩
    · exact .inl l
    · exact .inr ⟨k, c, e, cellK x c e _ z⟩
  · obtain ⟨v, z⟩ := I.cell x c e
    exact ⟨v, cellK x c e v z⟩
  · obtain ⟨m, ⟨o, _, _, ho, _⟩, _⟩ := I.loc
    exact free _ o (fun z => (hch _ z).2.1 rfl) ho I.free
  · obtain ⟨v, o, ho, hd⟩ := I.cell x c e
    exact free c o (fun z => (hch c z).2.2.1 x c e rfl) ho (I.freeC x c e)
  · obtain ⟨e, n, ne, nf, d⟩ := I.pin p hp
    have nch : p.1 ∉ ch := fun z => (hch p.1 z).2.2.2 p hp rfl
    exact ⟨keep p.1 p.2 ne nf nch e n, free p.1 p.2 nch e n, ne, nf, d⟩
end
noncomputable def ExcAt (h₀ h : Heap) (H : Hp) (ea : Addr) (C : Value) (d : Option Addr) : Prop :=
  ∃ oe vs T oT ts a0, h.get? ea = some oe ∧ (oe.cls = C ∧ Dx oe d) ∧ vs[0]? = some a0 ∧ oe.data = .fields vs ∧ vs[1]? = some (.ref T) ∧ T ≠ ea ∧ h.get? T = some oT ∧ oT.data = .fields ts ∧ ts[3]? = some .none ∧
    H ea = none ∧ H T = none ∧ h₀.get? ea = none ∧ h₀.get? T = none
noncomputable def CX1 (P : Program) (w : World) : CXT := fun outer H s E e s' =>
  ∃ ea C d H', e = .ref ea ∧ s'.os = s.os ∧ AllBare s'.gens ∧ Un (frs outer) [] H H' s.heap s'.heap ∧ HOk P w H' s'.heap ∧ ExcAt s.heap s'.heap H' ea C d ∧ E C d H'
section
variable {P : Program} {w : World} {K : PySem.W.Frag} {mg : Str → Option Value} {base : Heap} {N : List Str} {qual : Str} {scope : Scope} {f : Addr} {cd : Value} {A : Around} {outer : List Env} {s s1 : Shared} {H H1 : Hp} {E : XK}
  {pins : List (Addr × Obj)} {σ : St} {hid : List Addr} {h' : Heap} {ea : Addr} {C a0 : Value} {d : Option Addr}
theorem left_cx (I : Inv (cxOf (CX1 P w) P w K mg base N qual scope f cd A outer s H E) pins σ H1 s1) (hf : ∀ b ∈ frs (cxOf (CX1 P w) P w K mg base N qual scope f cd A outer s H E).stack, b ∈ hid)
    (hh : ∀ b ∈ hid, b ∈ frs (cxOf (CX1 P w) P w K mg base N qual scope f cd A outer s H E).stack ∨ (s.heap.get? b = none ∧ H1 b = none))
    (st : (PySem.W.hideAll s1.heap hid).StaysIn h') (sm : s1.heap.UpToSlots h') (tr : h'.TracedW (PySem.W.hideAll s1.heap hid) ea C a0) (hea : ea ∈ hid ∨ s1.heap.get? ea = none) (dx : ∀ o, h'.get? ea = some o → Dx o d) (e : E C d H1) :
    CX1 P w outer H s E (.ref ea) { s1 with heap := h' } := by
  have old : ∀ b o, s.heap.get? b = some o → ∃ o', s1.heap.get? b = some o' := fun b o q => I.base.there b o q (fun z => nomatch z)
  have frS := fun b hb => (I.stack.mem (b := b) hb).2
  have keepB : ∀ b o, b ∉ hid → s1.heap.get? b = some o → h'.get? b = some o := fun b o hb q => st b o (PySem.W.hideAll_get hid q hb)
  have trk : ∀ b o, H1 b = some o → b ∉ hid := fun b o q hb => by
    rcases hh b hb with z | ⟨_, z⟩
    · rw [I.stkFree b z] at q; cases q
    · rw [z] at q; cases q
  have fr2 : ∀ b o, s.heap.get? b = some o → b ∈ hid → b ∈ frs outer := fun b o q hb => by
    rcases hh b hb with z | ⟨z, _⟩
    · rcases List.mem_cons.mp (I.stkSub b z) with y | y
      · exact absurd (Nat.lt_of_lt_of_le (Heap.lt_size q) I.ok.above) (by rw [y]; exact Nat.lt_irrefl _)
      · exact y
    · rw [z] at q; cases q
  have inStk : ∀ b, b ∈ frs outer → b ∈ frs (cxOf (CX1 P w) P w K mg base N qual scope f cd A outer s H E).stack := fun b hb => List.mem_cons_of_mem _ hb
  obtain ⟨oe, vs, T, oT, ts, he, ⟨hc, h0⟩, hd, h1, hnT, hne, hT, hdT, h3⟩ := tr
  have gone : ∀ b o', (PySem.W.hideAll s1.heap hid).get? b = none → s1.heap.get? b = some o' → b ∈ hid := fun b o' z q => by
    by_cases hb : b ∈ hid
    · exact hb
    · rw [PySem.W.hideAll_get hid q hb] at z; cases z
  have fields : ∀ b o ws, h'.get? b = some o → o.data = .fields ws → b ∈ frs (cxOf (CX1 P w) P w K mg base N qual scope f cd A outer s H E).stack → False := fun b o ws q d hb => by
    obtain ⟨ob, g1, g2⟩ := frS b hb
    obtain ⟨sl, g3⟩ := sm b ob g1 g2
    rw [q] at g3; cases g3; exact g2 ws d
  have hT0 : s.heap.get? T = none := by
    cases q : s.heap.get? T with
    | none => rfl
    | some o =>
      obtain ⟨o', q'⟩ := old T o q
      exact (fields T oT ts hT hdT (inStk _ (fr2 T o q (gone T o' hnT q')))).elim
  have hT1 : H1 T = none := by
    cases q : H1 T with
    | none => rfl
    | some o =>
      obtain ⟨o', q'⟩ := (I.hok T o q).isThere
      exact absurd (gone T o' hnT q') (trk T o q)
  have he0 : s.heap.get? ea = none := by
    cases q : s.heap.get? ea with
    | none => rfl
    | some o =>
      rcases hea with z | z
      · exact (fields ea oe vs he hd (inStk _ (fr2 ea o q z))).elim
      · obtain ⟨o', q'⟩ := old ea o q
        rw [z] at q'; cases q'
  have he1 : H1 ea = none := by
    cases q : H1 ea with
    | none => rfl
    | some o =>
      rcases hea with z | z
      · exact absurd z (trk ea o q)
      · obtain ⟨o', q'⟩ := (I.hok ea o q).isThere
        rw [z] at q'; cases q'
  refine ⟨ea, C, d, H1, rfl, I.os, I.bare, ⟨fun b o q n hb _ => ?_, fun b o q n hb _ => ?_, fun b o q n _ => ?_, fun b o q _ => ?_, I.base.tups, I.base.frzs, I.base.tbls⟩, fun b o q => ?_,
    ⟨oe, vs, T, oT, ts, a0, he, ⟨hc, dx oe he⟩, h0, hd, h1, hne, hT, hdT, h3, he1, hT1, he0, hT0⟩, e⟩
  · exact keepB b o (fun z => hb (fr2 b o q z)) (I.base.keep b o q n hb (fun z => nomatch z))
  · obtain ⟨sl, q1⟩ := I.base.slot b o q n hb (fun z => nomatch z)
    obtain ⟨ob, g1, g2⟩ := frS b (inStk b hb)
    rw [q1] at g1; cases g1
    obtain ⟨sl', q2⟩ := sm b _ q1 g2
    exact ⟨sl', q2⟩
  · exact I.base.free b o q n (fun z => nomatch z)
  · obtain ⟨o', q1⟩ := old b o q
    by_cases hb : b ∈ hid
    · obtain ⟨ob, g1, g2⟩ := frS b (inStk b (fr2 b o q hb))
      obtain ⟨sl, q2⟩ := sm b ob g1 g2
      exact ⟨_, q2⟩
    · exact ⟨o', keepB b o' hb q1⟩
  · refine (I.hok b o q).stay (fun c u hc q' => keepB c u ?_ q') (fun _ z => z) fun _ _ z => z
    rcases hc with z | z
    · rw [z]; exact trk b o q
    · exact trk c _ z
theorem passes1 : Passes (CX1 P w) (cxOf (CX1 P w) P w K mg base N qual scope f cd A outer s H E) E := by
  intro pins σ H1 s1 e s' I hx
  obtain ⟨ea, C, d, H', rfl, os, bare, un, hok, ⟨oe, vs, T, oT, ts, a0, he, ⟨hc, hx0⟩, h0, hd, h1, hne, hT, hdT, h3, n1, n2, g1, g2⟩, hE⟩ := hx
  have I' : Inv (cxOf (CX1 P w) P w K mg base N qual scope f cd A outer s H E) pins σ H' s' := I.call' (ch := []) os un hok bare (fun _ z => nomatch z)
  have nOld : ∀ b, s1.heap.get? b = none → s.heap.get? b = none := fun b z => by
    cases q : s.heap.get? b with
    | none => rfl
    | some o =>
      obtain ⟨o', q'⟩ := I.base.there b o q (fun z => nomatch z)
      rw [z] at q'; cases q'
  have hfr : ∀ b ∈ frs (cxOf (CX1 P w) P w K mg base N qual scope f cd A outer s H E).stack, b ∈ ea :: T :: frs (cxOf (CX1 P w) P w K mg base N qual scope f cd A outer s H E).stack := fun b hb => .tail _ (.tail _ hb)
  refine wpAny_dkQ kd_leaving (wpAny_leaves_onW (base := PySem.W.hideAll s'.heap (ea :: T :: frs (cxOf (CX1 P w) P w K mg base N qual scope f cd A outer s H E).stack)) (cls := C) (a0 := a0) I'.ok.frames rfl
    ⟨fun b o q => PySem.W.of_hideAll _ q, PySem.W.hideAll_none _ (.head _), PySem.W.funFrames_hide I'.stack (fun env he' b hb => hfr b (List.mem_filterMap.mpr ⟨env, he', hb⟩)),
      ⟨oe, vs, T, oT, ts, he, ⟨hc, h0⟩, hd, h1, PySem.W.hideAll_none _ (.tail _ (.head _)), hne, hT, hdT, h3⟩⟩ fun h' fl sm dk => ?_)
  refine left_cx I' hfr (fun b hb => ?_) fl.1 sm fl.2.2.2 (.inl (.head _)) (fun o e => hx0.dk he e dk) hE
  rcases List.mem_cons.mp hb with rfl | hb
  · exact .inr ⟨nOld _ g1, n1⟩
  · rcases List.mem_cons.mp hb with rfl | hb
    · exact .inr ⟨nOld _ g2, n2⟩
    · exact .inl hb
end
abbrev bmV : List Value := [.type "ValueError", .type "Exception", .type "BaseException", .type "object"]
theorem exc_obj {K : PySem.W.Frag} {h : Heap} {C : Addr} {bmB : List Value} {newId : String} (X : K.In h) (q : PySem.W.excIn K C bmB newId = true) :
    ∃ bm N nm qn bs hdct sn sub ab col dd k0 k1 k2 k3 k5 mN, h.get? C = some (excClassObj nm qn C N bs bm hdct sn sub ab col dd k0 k1 k2 k3 k5 newId) ∧ h.Ns N mN ∧ mN "__init__" = none ∧ OwnTail h bmB bm := by
  unfold PySem.W.excIn at q
  split at q
  next dd cd sl ho =>
    split at q
    next C' bm k0 k1 k2 k3 n k5 hm hs =>
      simp only [Bool.and_eq_true, beq_iff_eq, Bool.not_eq_true'] at q
      obtain ⟨⟨⟨⟨⟨e1, e2⟩, hdel⟩, ht⟩, hok⟩, hni⟩ := q
      subst e1; subst e2
      obtain ⟨nm, bs, mro, ns, qn, hd, sn, sub, ab, col, del⟩ := cd
      dsimp only at hm hdel hok hni
      subst hm hdel
      obtain rfl : sl = #[k0, k1, k2, k3, some (.builtin n), k5] := by
        cases sl with
        | mk l => exact congrArg Array.mk hs
      have hns : h.Ns ns (h.nsMap ns) := .of_isNs (PySem.W.isNs_of_in X hok)
      exact ⟨bm, ns, nm, qn, bs, hd, sn, sub, ab, col, dd, k0, k1, k2, k3, k5, _, X _ _ ho, hns, PySem.W.nsMap_none_of_in X hok hni, PySem.W.tail_of_in X ht⟩
    next => cases q
  next => cases q
section
variable {P : Program} {w : World} {K : PySem.W.Frag} {mg : Str → Option Value} {base : Heap} {N : List Str} {qual : Str} {scope : Scope} {f : Addr} {cd : Value} {A : Around} {outer : List Env} {s : Shared} {H : Hp} {E : XK}
theorem ps_raise {x : Str} {np cpos pos : Pos} {e₀ : Expr} {rest : List Expr} {t : TA} {C : Addr} (hq : PySem.W.excIn K C bmV "ValueError.__new__" = true) (hm : mg x = some (.ref C))
    (ha : PA (cxOf (CX1 P w) P w K mg base N qual scope f cd A outer s H E) (e₀ :: rest) t)
    (hg : Gl (cxOf (CX1 P w) P w K mg base N qual scope f cd A outer s H E) x := by rfl) (hdb : (x == ("__debug__" : Str)) = false := by decide)
    (he : starEach (e₀ :: rest) (cxOf (CX1 P w) P w K mg base N qual scope f cd A outer s H E).env = (false, eval e₀ (cxOf (CX1 P w) P w K mg base N qual scope f cd A outer s H E).env) :: starEach rest (cxOf (CX1 P w) P w K mg base N qual scope f cd A outer s H E).env := by rfl)
    (hpl : (backTo cpos (starEach rest (cxOf (CX1 P w) P w K mg base N qual scope f cd A outer s H E).env)).any (·.1) = false := by rfl) :
    PS (cxOf (CX1 P w) P w K mg base N qual scope f cd A outer s H E) (.Raise (some (.Call (.Name x np) (e₀ :: rest) [] cpos)) none pos) (fun _ σ H0 => t σ H0 fun vs H1 => vs.length ≤ sizeLine ∧ E (.ref C) none H1) := by
  intro pins s1 σ H0 D I h
  obtain ⟨tl, N', nm, q, bs, hdct, sn, sub, ab, col, dd, k0, k1, k2, k3, k5, mN, hC, hN, hni, T⟩ := exc_obj I.ok.mod.kin hq
  refine wpAny_Raise_call_subT (C := C) (nm := nm) (q := q) (N := N') (bs := bs) (bm := tl) (hdct := hdct) (sn := sn) (sub := sub) (ab := ab) (col := col) (dd := dd) (k0 := k0) (k1 := k1) (k2 := k2) (k3 := k3) (k5 := k5)
    PySem.F.excBase_ValueError (mN := mN) (T.hasType PySem.F.excBase_ValueError.hasBase) (I.ok.hd rfl) (by rw [he]; show (false || (backTo cpos (starEach rest _)).any (·.1)) = false; rw [hpl]; rfl) hni (ld_glob I hg hm ⟨rfl, ?_⟩ hdb)
  have hs := ha cpos pins s1 σ H0 _ I h
  rw [he] at hs ⊢
  refine Calls.evalArgs_plain (wpAny_mono hs (fun us s2 h2 => ?_) fun _ _ y => y)
  obtain ⟨vs, H2, I2, r, z, hE⟩ := h2
  refine ⟨rfl, by rw [← r.length]; exact z, I2.bk _ _ hC, hN.keeps I2.bk, T.keeps I2.bk, fun h' e hm' => ?_⟩
  have hin : ∀ env ∈ (cxOf (CX1 P w) P w K mg base N qual scope f cd A outer s H E).stack, ∀ b, env.frame = some b → b ∈ frs (cxOf (CX1 P w) P w K mg base N qual scope f cd A outer s H E).stack := fun env he b hb => List.mem_filterMap.mpr ⟨env, he, hb⟩
  exact wpAny_leaves_madeW (base := PySem.W.hideAll s2.heap (frs (cxOf (CX1 P w) P w K mg base N qual scope f cd A outer s H E).stack)) (h := s2.heap) I2.ok.frames rfl (fun b o q => PySem.W.of_hideAll _ q) (PySem.W.funFrames_hide I2.stack hin) hm'
    fun h'' t' fl _ _ sm => (left_cx (s1 := s2) (h' := h'') I2 (fun b hb => hb) (fun b hb => .inl hb) fl.1 ((Heap.UpToSlots.of_keeps hm'.keeps).trans sm) fl.2.2.2 (.inr hm'.new) (fun _ _ => Dx.none) hE : CX1 P w outer H s E (.ref e) { s2 with heap := h'' })
end
end L2
set_option Elab.async false
set_option linter.all false
set_option maxRecDepth 100000
set_option maxHeartbeats 2000000
namespace L2
open PySem PySem.Spec PyProof.Rows
noncomputable def Fly (X : Cx) (pins : List (Addr × Obj)) (H : Hp) (ea : Addr) (C : Value) (d : Option Addr) (h : Heap) : Prop :=
  ∃ oe vs T oT ts a0, h.get? ea = some oe ∧ (oe.cls = C ∧ Dx oe d) ∧ vs[0]? = some a0 ∧ oe.data = .fields vs ∧ vs[1]? = some (.ref T) ∧ T ≠ ea ∧ h.get? T = some oT ∧ oT.data = .fields ts ∧ ts[3]? = some .none ∧
    H ea = none ∧ H T = none ∧ ∀ b, b = ea ∨ b = T → X.s₀.heap.get? b = none ∧ b ≠ X.env.locals ∧ (∀ x c, X.env.cells.lookup x = some c → c ≠ b) ∧ ∀ p ∈ X.pn ++ pins, p.1 ≠ b
noncomputable abbrev XS := St → Value → Option Addr → Hp → Prop
noncomputable def XP (X : Cx) (pins : List (Addr × Obj)) (E : XS) (e : Value) (s' : Shared) : Prop := ∃ σ ea C d H', e = .ref ea ∧ Inv X pins σ H' s' ∧ Fly X pins H' ea C d s'.heap ∧ E σ C d H'
noncomputable abbrev TEx := St → Hp → VK → XK → Prop
noncomputable abbrev TSx := Ends → XS → St → Hp → Prop
noncomputable def PEx (X : Cx) (e : Expr) (t : TEx) : Prop :=
  ∀ (pins : List (Addr × Obj)) (s : Shared) (σ : St) (H : Hp) (Q : VK) (E : XS), Inv X pins σ H s → t σ H Q (fun C d H' => E σ C d H') → wpAny (model X.prog X.w) X.A (eval e X.env) (EP X pins σ Q) (XP X pins E) s
noncomputable def PSx (X : Cx) (st : Stmt) (t : TSx) : Prop :=
  ∀ (pins : List (Addr × Obj)) (s : Shared) (σ : St) (H : Hp) (D : Ends) (E : XS), Inv X pins σ H s → t D E σ H → wpAny (model X.prog X.w) X.A (exec st X.env) (SP X pins D) (XP X pins E) s
noncomputable def PSxs (X : Cx) (st : List Stmt) (t : TSx) : Prop :=
  ∀ (pins : List (Addr × Obj)) (s : Shared) (σ : St) (H : Hp) (D : Ends) (E : XS), Inv X pins σ H s → t D E σ H → wpAny (model X.prog X.w) X.A (execs st X.env) (SP X pins D) (XP X pins E) s
structure Own (X : Cx) : Prop where
  ex : X.ex = []
  stk : X.stack = X.env :: X.outer
  fr : X.env.frame = some X.env.locals
  calm : X.calm = true
section
variable {X : Cx} {pins : List (Addr × Obj)} {σ : St} {H : Hp} {s s' : Shared} {E : XK} {e : Value}
theorem Inv.unlike (O : Own X) (I : Inv X pins σ H s) {b : Addr} (z : s.heap.get? b = none) :
    X.s₀.heap.get? b = none ∧ b ≠ X.env.locals ∧ (∀ x c, X.env.cells.lookup x = some c → c ≠ b) ∧ ∀ p ∈ X.pn ++ pins, p.1 ≠ b := by
  refine ⟨?_, ?_, fun x c e y => ?_, fun p hp y => ?_⟩
  · cases q : X.s₀.heap.get? b with
    | none => rfl
    | some o =>
      obtain ⟨o', q'⟩ := I.base.there b o q (by rw [O.ex]; exact fun z => nomatch z)
      rw [z] at q'; cases q'
  · obtain ⟨m, ⟨o, _, _, ho, _⟩, _⟩ := I.loc
    rintro rfl
    rw [z] at ho; cases ho
  · obtain ⟨v, o, ho, _⟩ := I.cell x c e
    rw [y, z] at ho; cases ho
  · have := (I.pin p hp).1
    rw [y, z] at this; cases this
theorem fly_of (O : Own X) (I : Inv X pins σ H s) (hx : CX1 X.prog X.w X.stack H s E e s') : ∃ ea C d H', e = .ref ea ∧ Inv X pins σ H' s' ∧ Fly X pins H' ea C d s'.heap ∧ E C d H' := by
  obtain ⟨ea, C, d, H', rfl, os, bare, un, hok, ⟨oe, vs, T, oT, ts, a0, he, hc, h0, hd, h1, hne, hT, hdT, h3, n1, n2, g1, g2⟩, hE⟩ := hx
  refine ⟨ea, C, d, H', rfl, I.call' (ch := []) os un hok bare (fun _ z => nomatch z), ⟨oe, vs, T, oT, ts, a0, he, hc, h0, hd, h1, hne, hT, hdT, h3, n1, n2, fun b hb => ?_⟩, hE⟩
  rcases hb with rfl | rfl
  · exact I.unlike O g1
  · exact I.unlike O g2
theorem fly_on (O : Own X) (I : Inv X pins σ H s) {oe : Obj} {vs ts : Array Value} {T ea : Addr} {oT : Obj} {a0 C : Value} {h' : Heap}
    {d : Option Addr} (n1 : H ea = none) (n2 : H T = none) (hb : ∀ b, b = ea ∨ b = T → X.s₀.heap.get? b = none ∧ b ≠ X.env.locals ∧ (∀ x c, X.env.cells.lookup x = some c → c ≠ b) ∧ ∀ p ∈ X.pn ++ pins, p.1 ≠ b)
    (st : (PySem.W.hideAll s.heap (ea :: T :: frs X.stack)).StaysIn h') (sm : s.heap.UpToSlots h') (tr : h'.TracedW (PySem.W.hideAll s.heap (ea :: T :: frs X.stack)) ea C a0) (dx : ∀ o, h'.get? ea = some o → Dx o d) :
    Inv X pins σ H { s with heap := h' } ∧ Fly X pins H ea C d h' := by
  have frS := fun b hb => (I.stack.mem (b := b) hb).2
  have keepB : ∀ b o, b ∉ ea :: T :: frs X.stack → s.heap.get? b = some o → h'.get? b = some o := fun b o hb q => st b o (PySem.W.hideAll_get _ q hb)
  have trk : ∀ b o, H b = some o → b ∉ ea :: T :: frs X.stack := fun b o q hb => by
    rcases List.mem_cons.mp hb with rfl | hb
    · rw [n1] at q; cases q
    · rcases List.mem_cons.mp hb with rfl | hb
      · rw [n2] at q; cases q
      · rw [I.stkFree b hb] at q; cases q
  have nh : ∀ b, b ≠ X.env.locals → b ∉ X.fs → b ∉ [ea, T] → b ∉ ea :: T :: frs X.stack := fun b h1 h2 h3 hb => by
    rcases List.mem_cons.mp hb with rfl | hb
    · exact h3 (.head _)
    · rcases List.mem_cons.mp hb with rfl | hb
      · exact h3 (.tail _ (.head _))
      · rcases List.mem_cons.mp (I.stkSub b hb) with y | y
        · exact h1 y
        · exact h2 y
  have fsS : ∀ b, b ∈ X.fs → b ∈ frs X.stack := fun b hb => by
    rw [O.stk]; unfold frs; rw [List.filterMap_cons, O.fr]; exact .tail _ hb
  refine ⟨I.step2 (g' := s.gens) (d' := s.drawn) (t' := s.toks) (ch := [ea, T]) (fun b hc => ?_) (fun b o h1 h2 h3 q _ => keepB b o (nh b h1 h2 h3) q) (fun b o _ h2 _ q _ => ?_) (fun _ _ _ _ n => n) (fun b o h3 q => ?_)
    (fun _ _ z => z) (fun _ _ _ z => z) (fun b ps z => ⟨#[], by rw [z]; simp⟩) (fun m hm => sm.ns hm) (fun b o q => ?_) I.bare, ?_⟩
  · have hc' : b = ea ∨ b = T := by simpa using hc
    obtain ⟨y1, y2, y3, y4⟩ := hb b hc'
    exact ⟨.inr y1, y2, y3, y4⟩
  · obtain ⟨ob, g1, g2⟩ := frS b (fsS b h2)
    rw [q] at g1; cases g1
    exact sm b o q g2
  · by_cases hh : b ∈ ea :: T :: frs X.stack
    · rcases List.mem_cons.mp hh with rfl | hh
      · exact absurd (.head _) h3
      · rcases List.mem_cons.mp hh with rfl | hh
        · exact absurd (.tail _ (.head _)) h3
        · obtain ⟨ob, g1, g2⟩ := frS b hh
          obtain ⟨sl, q2⟩ := sm b ob g1 g2
          exact ⟨_, q2⟩
    · exact ⟨o, keepB b o hh q⟩
  · refine (I.hok b o q).stay (fun c u hc q' => keepB c u ?_ q') (fun _ z => z) fun _ _ z => z
    rcases hc with z | z
    · rw [z]; exact trk b o q
    · exact trk c _ z
  · obtain ⟨oe, vs, T', oT, ts, he, ⟨hc, h0⟩, hd, h1, hnT, hne, hT, hdT, h3⟩ := tr
    have gone : ∀ o', s.heap.get? T' = some o' → T' = T := fun o' q => by
      by_cases hh : T' ∈ ea :: T :: frs X.stack
      · rcases List.mem_cons.mp hh with y | hh
        · exact absurd y hne
        · rcases List.mem_cons.mp hh with y | hh
          · exact y
          · obtain ⟨ob, g1, g2⟩ := frS T' hh
            obtain ⟨sl, g3⟩ := sm T' ob g1 g2
            rw [hT] at g3; cases g3
            exact absurd hdT (g2 ts)
      · rw [PySem.W.hideAll_get _ q hh] at hnT; cases hnT
    have hT1 : H T' = none := by
      cases q : H T' with
      | none => rfl
      | some o =>
        obtain ⟨o', q'⟩ := (I.hok T' o q).isThere
        rw [gone o' q', n2] at q; cases q
    refine ⟨oe, vs, T', oT, ts, a0, he, ⟨hc, dx oe he⟩, h0, hd, h1, hne, hT, hdT, h3, n1, hT1, fun b hb' => ?_⟩
    rcases hb' with rfl | rfl
    · exact hb b (.inl rfl)
    · cases q : s.heap.get? b with
      | none => exact I.unlike O q
      | some o' => exact hb b (.inr (gone o' q))
theorem look_fly {Q : Unit → Shared → Prop} {E' : Value → Shared → Prop} {ea : Addr} {C : Value} {d : Option Addr} (O : Own X) (I : Inv X pins σ H s) (f : Fly X pins H ea C d s.heap)
    (h : ∀ h', Inv X pins σ H { s with heap := h' } → Fly X pins H ea C d h' → Q () { s with heap := h' }) :
    wpAny (model X.prog X.w) X.A (noteFrame (.ref ea) X.env) (fun _ s₂ => wpAny (model X.prog X.w) X.A (setFlight (.ref ea) none) Q E' s₂) E' s := by
  obtain ⟨oe, vs, T, oT, ts, a0, he, ⟨hc, hx0⟩, h0, hd, h1, hne, hT, hdT, h3, n1, n2, hb⟩ := f
  have hin : ∀ env ∈ X.stack, ∀ b, env.frame = some b → b ∈ ea :: T :: frs X.stack := fun env he' b hb' => .tail _ (.tail _ (List.mem_filterMap.mpr ⟨env, he', hb'⟩))
  have hfl : Heap.FlyingW (PySem.W.hideAll s.heap (ea :: T :: frs X.stack)) (X.env :: X.outer) ea C a0 s.heap := by
    rw [← O.stk]
    exact ⟨fun b o q => PySem.W.of_hideAll _ q, PySem.W.hideAll_none _ (.head _), PySem.W.funFrames_hide I.stack hin,
      ⟨oe, vs, T, oT, ts, he, ⟨hc, h0⟩, hd, h1, PySem.W.hideAll_none _ (.tail _ (.head _)), hne, hT, hdT, h3⟩⟩
  refine wpAny_dkQ kd_noteFrame (wpAny_looks_onW (by rw [← O.stk]; exact I.ok.frames) O.fr hfl fun h₄ hheld sm₄ dk1 => ?_)
  refine wpAny_dkQ kd_setFlight (wpAny_landsW hheld fun h₅ fl₅ sm₅ dk2 => ?_)
  obtain ⟨I₅, f₅⟩ := fly_on (oe := oe) (vs := vs) (ts := ts) (oT := oT) O I n1 n2 hb fl₅.1 (sm₄.trans sm₅) fl₅.2.2.2 (fun o e => hx0.dk he e (dk1.trans dk2))
  exact h h₅ I₅ f₅
theorem land_fly {Q : Unit → Shared → Prop} {A' : Around} {E' : Value → Shared → Prop} {ea : Addr} {C : Value} {d : Option Addr} (O : Own X) (I : Inv X pins σ H s) (f : Fly X pins H ea C d s.heap)
    (h : ∀ h', Inv X pins σ H { s with heap := h' } → Fly X pins H ea C d h' → Q () { s with heap := h' }) :
    wpAny (model X.prog X.w) A' (setFlight (.ref ea) none) Q E' s := by
  obtain ⟨oe, vs, T, oT, ts, a0, he, ⟨hc, hx0⟩, h0, hd, h1, hne, hT, hdT, h3, n1, n2, hb⟩ := f
  have hin : ∀ env ∈ X.stack, ∀ b, env.frame = some b → b ∈ ea :: T :: frs X.stack := fun env he' b hb' => .tail _ (.tail _ (List.mem_filterMap.mpr ⟨env, he', hb'⟩))
  have hfl : Heap.FlyingW (PySem.W.hideAll s.heap (ea :: T :: frs X.stack)) X.stack ea C a0 s.heap :=
    ⟨fun b o q => PySem.W.of_hideAll _ q, PySem.W.hideAll_none _ (.head _), PySem.W.funFrames_hide I.stack hin,
      ⟨oe, vs, T, oT, ts, he, ⟨hc, h0⟩, hd, h1, PySem.W.hideAll_none _ (.tail _ (.head _)), hne, hT, hdT, h3⟩⟩
  refine wpAny_dkQ kd_setFlight (lands_againW hfl fun h₅ fl₅ sm₅ dk2 => ?_)
  obtain ⟨I₅, f₅⟩ := fly_on (oe := oe) (vs := vs) (ts := ts) (oT := oT) O I n1 n2 hb fl₅.1 sm₅ fl₅.2.2.2 (fun o e => hx0.dk he e dk2)
  exact h h₅ I₅ f₅
end
noncomputable abbrev Cx.mark (X : Cx) (ea : Addr) : Cx := { X with A := X.A.mark (some (.ref ea)), calm := false }
section
variable {X : Cx} {pins : List (Addr × Obj)} {σ : St} {H : Hp} {s : Shared} {ea : Addr}
theorem Inv.mark (I : Inv X pins σ H s) (ea : Addr) : Inv (X.mark ea) pins σ H s :=
  ⟨⟨I.ok.mod, I.ok.kind, I.ok.glob, I.ok.blt, I.ok.above, I.ok.inj, I.ok.has, I.ok.cab, (fun z => nomatch z), I.ok.frames, I.ok.stk, I.ok.exf, I.ok.bs, I.ok.bsz, I.ok.noex, I.ok.exfs, I.ok.funs, I.ok.frf⟩,
    I.os, I.bare, I.base, I.loc, I.cell, I.free, I.freeC, I.pin, I.hok, I.len⟩
theorem Inv.unmark (ok : X.Ok) (I : Inv (X.mark ea) pins σ H s) : Inv X pins σ H s := ⟨ok, I.os, I.bare, I.base, I.loc, I.cell, I.free, I.freeC, I.pin, I.hok, I.len⟩
theorem SP.unmark {D : Ends} {f : Flow} (ok : X.Ok) (h : SP (X.mark ea) pins D f s) : SP X pins D f s := by
  cases f with
  | next => obtain ⟨σ', H', I', q⟩ := h; exact ⟨σ', H', I'.unmark ok, q⟩
  | brk => obtain ⟨σ', H', I', q⟩ := h; exact ⟨σ', H', I'.unmark ok, q⟩
  | cont => obtain ⟨σ', H', I', q⟩ := h; exact ⟨σ', H', I'.unmark ok, q⟩
  | ret u => obtain ⟨v, σ', H', I', r, q⟩ := h; exact ⟨v, σ', H', I'.unmark ok, r, q⟩
end
noncomputable abbrev TH := Value → Option Addr → TS
noncomputable def PH (X : Cx) (hs : List ExceptHandler) (t : TH) : Prop :=
  ∀ (pins : List (Addr × Obj)) (s : Shared) (σ : St) (H : Hp) (D : Ends) (ea : Addr) (C : Value) (d : Option Addr), Inv X pins σ H s → Fly X pins H ea C d s.heap → t C d D σ H → wpAny (model X.prog X.w) X.A (handleBy (.ref ea) X.env hs) (SP X pins D) X.xe s
noncomputable def hNil : TH := fun _ _ _ _ _ => False
section
variable {X : Cx}
theorem ph_nil : PH X [] hNil := fun _ _ _ _ _ _ _ _ _ _ h => h.elim
theorem psxs_one {st : Stmt} {t : TSx} (h1 : PSx X st t) : PSxs X [st] t := by
  intro pins s σ H D E I h
  refine wpAny_execs_cons (wpAny_mono (h1 pins s σ H D E I h) (fun f s1 q => ?_) fun _ _ z => z)
  cases f with
  | next => exact wpAny_execs_nil q
  | ret v => exact q
  | brk => exact q
  | cont => exact q
noncomputable def xDrop (te : TEx) : TSx := fun D E σ H => te σ H (fun _ H1 => D.nx σ H1) fun C d H1 => E σ C d H1
theorem psx_expr {e : Expr} {te : TEx} {pos : Pos} (he : PEx X e te) (hs : swapsWith e none pos.line X.env = pure false := by rfl) : PSx X (.Expr e pos) (xDrop te) := by
  intro pins s σ H D E I h
  exact wpAny_Expr_any (wpAny_mono (he pins s σ H _ E I h) (fun v s1 ⟨x, H1, I1, r1, q1⟩ => ⟨σ, H1, I1, q1⟩) fun _ _ z => z) I.quiet hs
noncomputable def tTry (tb : TSx) (th : TH) : TS := fun D σ H => tb D (fun σ' C d H' => th C d D σ' H') σ H
theorem ps_try {body : List Stmt} {h₀ : ExceptHandler} {hs : List ExceptHandler} {tb : TSx} {th : TH} {pos : Pos} (O : Own X) (hb : PSxs X body tb) (hh : PH X (h₀ :: hs) th) : PS X (.Try body (h₀ :: hs) [] [] pos) (tTry tb th) := by
  intro pins s σ H D I h
  refine wpAny_Try_except (wpAny_mono (hb pins s σ H D _ I h) (fun f s1 q => ?_) fun e s1 q => ?_)
  · cases f with
    | next => exact wpAny_execs_nil q
    | ret v => exact q
    | brk => exact q
    | cont => exact q
  · obtain ⟨σ', ea, C, d, H', rfl, I', f, q⟩ := q
    exact look_fly O I' f fun h' I'' f'' => hh pins _ σ' H' D ea C d I'' f'' q
theorem pex_call {k : Nat} {f : Addr} {fd : FuncData} {ps : List Str} {sp : Sp} {dvs : List V} {ds : List Value} {x : Str} {p pos : Pos} {e : Expr} {es : List Expr} {t : TA} (O : Own X) (F : FnOk X.prog X.w X.K X.mg X.base (CX1 X.prog X.w) k f fd ps sp) (hr : Room k X.A) (hg : Gl X x) (hm : X.mg x = some (.ref f)) (hk : PySem.W.keepIn X.K (.ref f) = true) (hb : Binds X.K fd ps ds) (hd : Vals dvs ds)
    (ha : PA X.nox (e :: es) t) (hdb : (x == ("__debug__" : Str)) = false := by decide) (he : starEach (e :: es) X.env = (false, eval e X.env) :: starEach es X.env := by rfl) (hpl : (backTo pos (starEach es X.env)).any (·.1) = false := by rfl) :
    PEx X (.Call (.Name x p) (e :: es) [] pos) (fun σ H Q E => t σ H fun vs H1 => sp (vs ++ dvs) H1 Q E) := by
  intro pins s σ H Q E I h
  refine wpAny_Call_Name_kw (ld_glob I hg hm ?_ hdb)
  refine PySem.W.callWith_K (h₀ := X.base) I.ok.mod.kin hk (wpAny_mono (ha pos pins s σ H _ (I.wish _) h) (fun us s1 q => ?_) fun _ _ z => z.elim) he hpl
  obtain ⟨vs, H1, I1, r, q⟩ := q
  have I1 := I1.unwish
  have r2 : Vals (vs ++ dvs) (us ++ ds) := r.append hd
  have hl : (us ++ ds).length = ps.length := by rw [← r2.length]; exact F.len _ _ _ _ q
  refine ⟨I1.kIn, wpAny_call (codeAny_mono (F.run X.A X.stack s1 H1 ⟨us, []⟩ (us ++ ds) (vs ++ dvs) Q _ hr I1.env0 (hb s1 us I1.kIn hl) r2 q) fun r s' hq => ?_)⟩
  cases r with
  | error e =>
    have hq' : CX1 X.prog X.w X.stack H1 s1 (fun C d H' => E σ C d H') e s' := hq
    obtain ⟨ea, C, d, H', e1, I', f', q'⟩ := fly_of O I1 hq'
    exact ⟨σ, ea, C, d, H', e1, I', f', q'⟩
  | ok fl =>
    cases fl with
    | ret u => exact I1.after hq
    | next => exact False.elim hq
    | brk => exact False.elim hq
    | cont => exact False.elim hq
end
section
variable {P : Program} {w : World} {K : PySem.W.Frag} {mg : Str → Option Value} {base : Heap}
theorem Fun.okX {x qual : Str} {st : Stmt} {f : Addr} {fd : FuncData} {N ps : List Str} {k : Nat} {sp : Sp} (F : Fun K x qual st f fd) (S : FnScope N ps (defScope st)) (len : ∀ vs H Q E, sp vs H Q E → vs.length = ps.length)
    (hbody : ∀ (cdv : Value) (A : Around) (outer : List Env) (s : Shared) (H : Hp) (vs : List V) (Q : VK) (E : XK), Room k (A.deeper (envOfC qual (defScope st) s.heap.objs.size f cdv)) → sp vs H Q E →
      ∃ t, PSs (cxOf (CX1 P w) P w K mg base N qual (defScope st) f cdv A outer s H E) (defBody st) t ∧ t { nx := fun _ H' => Q .non H', rt := Q } (start N vs) H) : FnOk P w K mg base (CX1 P w) (k + 1) f fd ps sp := by
  obtain ⟨oc, od, kV, doc, pm, an, cdv, ct, osl, rfl, lk, hcd⟩ := F.ex
  exact fn_of lk hcd S len fun A outer s H vs Q E hr hsp => hbody cdv A outer s H vs Q E hr hsp
theorem own_cx {N : List Str} {qual : Str} {scope : Scope} {f : Addr} {cd : Value} {A : Around} {outer : List Env} {s : Shared} {H : Hp} {E : XK} : Own (cxOf (CX1 P w) P w K mg base N qual scope f cd A outer s H E) := ⟨rfl, rfl, rfl, rfl⟩
theorem own_pass {N : List Str} {qual : Str} {scope : Scope} {f : Addr} {cd : Value} {A : Around} {outer : List Env} {s : Shared} {H : Hp} {E : XK} :
    PassesOwn (model P w) (cxOf (CX1 P w) P w K mg base N qual scope f cd A outer s H E).A (cxOf (CX1 P w) P w K mg base N qual scope f cd A outer s H E).env (cxOf (CX1 P w) P w K mg base N qual scope f cd A outer s H E).xe := PassesOwn.leaving
end
end L2
set_option Elab.async false
set_option linter.all false
set_option maxRecDepth 100000
set_option maxHeartbeats 2000000
namespace L2
open PySem PySem.Spec PyProof.Rows
noncomputable def clIn (env : Env) : List (Str × NameKind) → List (Str × Addr) → List (Str × Addr)
  | [], cs => cs
  | (n, k) :: r, cs => if k == .free then (match env.cells.lookup n with | some a => clIn env r ((n, a) :: cs) | none => clIn env r cs) else clIn env r cs
noncomputable abbrev clOf (scope : Scope) (env : Env) : List (Str × Addr) := clIn env scope.names []
theorem clIn_mem {env : Env} : ∀ {ns : List (Str × NameKind)} {cs : List (Str × Addr)}, (∀ n a, (n, a) ∈ cs → env.cells.lookup n = some a) → ∀ n a, (n, a) ∈ clIn env ns cs → env.cells.lookup n = some a
  | [], _, h => h
  | (m, k) :: r, cs, h => by
    unfold clIn
    split
    · split
      · rename_i a e
        exact clIn_mem fun n b hb => by
          rcases List.mem_cons.mp hb with z | z
          · cases z; exact e
          · exact h n b z
      · exact clIn_mem h
    · exact clIn_mem h
theorem clIn_sub {env : Env} : ∀ {ns : List (Str × NameKind)} {cs : List (Str × Addr)} {p : Str × Addr}, p ∈ cs → p ∈ clIn env ns cs
  | [], _, _, h => h
  | (m, k) :: r, cs, p, h => by
    unfold clIn
    split
    · split
      · exact clIn_sub (.tail _ h)
      · exact clIn_sub h
    · exact clIn_sub h
theorem clIn_has {env : Env} {n : Str} {a : Addr} (e : env.cells.lookup n = some a) : ∀ {ns : List (Str × NameKind)} {cs : List (Str × Addr)}, (n, NameKind.free) ∈ ns → (n, a) ∈ clIn env ns cs
  | (m, k) :: r, cs, h => by
    unfold clIn
    rcases List.mem_cons.mp h with z | z
    · cases z
      rw [if_pos (by rfl), e]
      exact clIn_sub (.head _)
    · split
      · split
        · exact clIn_has e z
        · exact clIn_has e z
      · exact clIn_has e z
theorem look_of_mem {α : Type} {n : Str} : ∀ {l : List (Str × α)} {a : α}, (n, a) ∈ l → ∃ b, l.lookup n = some b
  | (m, c) :: r, a, h => by
    cases e : (n == m) with
    | true => exact ⟨c, by rw [List.lookup_cons, e]⟩
    | false =>
      rcases List.mem_cons.mp h with z | z
      · cases z
        rw [beq_self_eq_true] at e; cases e
      · obtain ⟨b, hb⟩ := look_of_mem z
        exact ⟨b, by rw [List.lookup_cons, e]; exact hb⟩
theorem cl_look {scope : Scope} {env : Env} {n : Str} {c : Addr} (h : (clOf scope env).lookup n = some c) : env.cells.lookup n = some c :=
  clIn_mem (cs := []) (by intro _ _ z; cases z) n c (PySem.mem_of_lookup h)
theorem closure_eq {scope : Scope} {env : Env} (h : ∀ y ∈ scope.names, y.2 = .free → ∃ c, env.cells.lookup y.1 = some c) : closureFor scope env = pure (clOf scope env) := by
  have all : ∀ (ns : List (Str × NameKind)) (cs : List (Str × Addr)), (∀ y ∈ ns, y.2 = .free → ∃ c, env.cells.lookup y.1 = some c) →
      (forIn ns cs fun (x : Str × NameKind) (r : List (Str × Addr)) => (match x with | (name, kind) => if (kind == NameKind.free) = true then (do let c ← cellOf env name; pure (ForInStep.yield ((name, c) :: r))) else pure (ForInStep.yield r) : Sem (ForInStep (List (Str × Addr))))) = pure (clIn env ns cs) := by
    intro ns
    induction ns with
    | nil => intro cs _; rfl
    | cons y r ih =>
      intro cs h
      obtain ⟨n, k⟩ := y
      rw [List.forIn_cons]
      have hr : ∀ y ∈ r, y.2 = .free → ∃ c, env.cells.lookup y.1 = some c := fun y hy => h y (.tail _ hy)
      by_cases hk : (k == NameKind.free) = true
      · obtain ⟨c, hc⟩ := h (n, k) (.head _) (beq_iff_eq.mp hk)
        have hc' : env.cells.lookup n = some c := hc
        have e1 : cellOf env n = pure c := by unfold cellOf; rw [hc']
        simp only [hk, if_true, e1, pure_bind]
        rw [ih _ hr]
        conv => rhs; unfold clIn
        rw [if_pos hk, hc']
      · simp only [hk, if_false, pure_bind, Bool.false_eq_true]
        rw [ih _ hr]
        conv => rhs; unfold clIn
        rw [if_neg hk]
  have := all scope.names [] h
  unfold closureFor
  first
    | exact this
    | (simp only [bind_pure]; exact this)
    | simpa using this
noncomputable def Cx.comp (X : Cx) (scope : Scope) (C : Addr) (N' : List Str) (s : Shared) (H : Hp) (fp : List Addr) : Cx where
  prog := X.prog
  w := X.w
  K := X.K
  mg := X.mg
  base := X.base
  A := X.A
  N := N'
  s₀ := s
  H₀ := H
  env := compEnvC scope (clOf scope X.env) C X.env
  outer := X.stack
  stack := X.stack
  ex := fp
  fn := fun _ => false
  calm := X.calm
  pn := []
  xe := fun _ _ => False
noncomputable def seen (lv : Nat) (caps : List Nat) (σ : St) : St := List.replicate lv none ++ caps.map fun j => (σ[j]?).join
noncomputable def compW (J : It) (g : TG) (te : TE) (σ0 : St) (Q : VK) (H1 : Hp) : Prop := ∀ D, H1 D = none → ∃ W : Nat → Nat → List V → Hp → Prop, (∃ m, W 0 m [] (upd H1 D (.lst []))) ∧
  ∀ i m ys H, W i m ys H → H D = some (.lst ys) ∧ ys.length < sizeLine ∧ ((J.stop i H ∧ Q (.ref D) H) ∨ (J.go i H ∧ ∀ x H', J.yld i H x H' → g x σ0 H' fun σ2 H2 => te σ2 H2 fun v H3 => H3 D = some (.lst ys) ∧
    ∃ m', m' < m ∧ W (i + 1) m' (ys ++ [v]) (upd H3 D (.lst (ys ++ [v])))))
noncomputable def tComp (wi : TI) (g : TG) (te : TE) (lv : Nat) (caps : List Nat) : TE := fun σ H Q => wi σ H fun J H1 => compW J g te (seen lv caps σ) Q H1
structure CompOk (X : Cx) (scope : Scope) (lv : Nat) (caps : List Nat) (N' : List Str) : Prop where
  kind : scope.kind = .function
  cell : ∀ y ∈ scope.names, y.2 ≠ .cell
  free : ∀ y ∈ scope.names, y.2 = .free → X.env.kindOf y.1 = some .cell ∨ X.env.kindOf y.1 = some .free
  loc : ∀ y ∈ scope.names, y.2 = .local → scope.names.lookup y.1 = some .local
  len : N'.length = lv + caps.length
  cap : ∀ (p : Nat) (j : Nat), caps[p]? = some j → ∃ x, N'[lv + p]? = some x ∧ X.N[j]? = some x ∧ scope.names.lookup x = some .free
section
variable {X : Cx} {pins : List (Addr × Obj)} {σ : St} {H : Hp} {s : Shared}
theorem relabel_kind {scope : Scope} {env : Env} {x : Str} {k : NameKind} (h : (relabel scope env).names.lookup x = some k) (hc : ∀ y ∈ scope.names, y.2 ≠ .cell) (hk : k = .cell ∨ k = .free) : (x, NameKind.free) ∈ scope.names := by
  have hm := PySem.mem_of_lookup h
  obtain ⟨⟨n, k'⟩, h1, h2⟩ := List.mem_map.mp hm
  dsimp only at h2
  split at h2
  · rename_i hif
    cases h2
    have : k' = .free := by
      simp only [Bool.and_eq_true, beq_iff_eq] at hif
      exact hif.1.1
    subst this
    exact h1
  · cases h2
    rcases hk with rfl | rfl
    · exact absurd rfl (hc _ h1)
    · exact h1
theorem lookup_relabel_free {env : Env} : ∀ {names : List (Str × NameKind)} {x : Str}, names.lookup x = some .free →
    (names.map fun (n, k) => if (k == NameKind.free && env.scope.kind == .function && env.kindOf n == some .cell) then (n, NameKind.cell) else (n, k)).lookup x = some .free ∨
    (names.map fun (n, k) => if (k == NameKind.free && env.scope.kind == .function && env.kindOf n == some .cell) then (n, NameKind.cell) else (n, k)).lookup x = some .cell
  | [], _, h => by simp at h
  | (n, k) :: r, x, h => by
    have ih := @lookup_relabel_free env r x
    rw [List.map_cons]
    dsimp only
    cases e : (x == n) with
    | true =>
      rw [List.lookup_cons, e] at h
      have hk : k = .free := Option.some.inj h
      subst hk
      split
      · exact .inr (by rw [List.lookup_cons, e])
      · exact .inl (by rw [List.lookup_cons, e])
    | false =>
      rw [List.lookup_cons, e] at h
      split
      · rw [List.lookup_cons, e]; exact ih h
      · rw [List.lookup_cons, e]; exact ih h
theorem inv_comp {scope : Scope} {lv : Nat} {caps : List Nat} {N' : List Str} {fp : List Addr} {h₁ : Heap} (ok : CompOk X scope lv caps N') (I : Inv X pins σ H s) (hf : ∀ b ∈ fp, FpOk X pins H b)
    (hns : h₁.Ns s.heap.objs.size fun _ => none) (hk : ∀ b o, s.heap.get? b = some o → h₁.get? b = some o) (hfp : ∀ b ∈ fp, b < s.heap.objs.size) (t' : Nat) :
    Inv (X.comp scope s.heap.objs.size N' s H fp) [] (seen lv caps σ) H { s with heap := h₁, toks := t' } := by
  have ne : ∀ {b : Addr} {o : Obj}, s.heap.get? b = some o → b ≠ s.heap.objs.size := fun e => Nat.ne_of_lt (Heap.lt_size e)
  refine ⟨⟨I.ok.mod, ok.kind, I.ok.glob, I.ok.blt, Nat.le_refl _, fun x y c h1 h2 => I.ok.inj x y c (cl_look h1) (cl_look h2), fun x hx => ?_, (fun x c h => nomatch h), I.ok.hd, I.ok.frames, .inl rfl, fun b hb => ⟨Nat.ne_of_lt (hfp b hb), fun x c e => (hf b hb).2.2.2.2.1 x c (cl_look e)⟩,
    I.bs, Nat.le_trans I.ok.bsz I.sz, fun b o e hb => ?_, fun b hb hfs => ?_, I.stack, I.stkFree⟩, rfl, I.bare, Un.kept hk, ⟨_, hns, fun i x v h1 h2 h3 => ?_⟩, fun x c e => ?_, I.fresh, fun x c e => I.freeC x c (cl_look e), fun p hp => absurd (show p ∈ ([] : List (Addr × Obj)) from hp) (by simp), I.hok.kept hk, ?_⟩
  · have hm : (x, NameKind.free) ∈ scope.names := by
      rcases hx with hx | hx
      · exact relabel_kind hx ok.cell (.inl rfl)
      · exact relabel_kind hx ok.cell (.inr rfl)
    obtain ⟨c, hc⟩ := I.ok.has x (ok.free _ hm rfl)
    exact look_of_mem (clIn_has hc hm)
  · rcases (hf b hb).2.2.2.1 with z | z
    · exact I.ok.noex b o e z
    · exact absurd (Nat.lt_of_lt_of_le (Heap.lt_size (I.ok.bs b o e).1) z) (Nat.lt_irrefl _)
  · rcases List.mem_cons.mp (I.stkSub b hfs) with z | z
    · exact (hf b hb).2.1 z
    · exact (hf b hb).2.2.1 z
  · unfold seen at h2
    rcases Nat.lt_or_ge i lv with hi | hi
    · rw [List.getElem?_append_left (by simpa using hi), List.getElem?_replicate_of_lt hi] at h2
      cases h2
    · rw [List.getElem?_append_right (by simpa using hi), List.length_replicate, List.getElem?_map] at h2
      cases hj : caps[i - lv]? with
      | none => rw [hj] at h2; cases h2
      | some j =>
        rw [hj] at h2
        have h2' : (σ[j]?).join = some v := Option.some.inj h2
        obtain ⟨x', e1, e2, e3⟩ := ok.cap (i - lv) j hj
        rw [show lv + (i - lv) = i by omega] at e1
        have h1' : N'[i]? = some x := h1
        rw [h1'] at e1; cases e1
        have hσ : σ[j]? = some (some v) := by
          cases q : σ[j]? with
          | none => rw [q] at h2'; cases h2'
          | some o => rw [q] at h2'; cases o with
            | none => cases h2'
            | some v' => have : some v' = some v := h2'; cases this; rfl
        have hk' := ok.free (x, .free) (PySem.mem_of_lookup e3) rfl
        obtain ⟨m, _, hl⟩ := I.loc
        have hv : Vis X.env.scope x := by rcases hk' with z | z; exact .inr (.inl z); exact .inr (.inr z)
        obtain ⟨u, r, l⟩ := hl j x v e2 hσ hv
        refine ⟨u, r, .inr ⟨?_, ?_⟩⟩
        · exact (lookup_relabel_free (env := X.env) e3).symm
        · rcases l with ⟨k, _⟩ | ⟨k, c, e, o, ho, hd⟩
          · rcases hk' with z | z
            · rw [k] at z; cases z
            · rw [k] at z; cases z
          · obtain ⟨c', hc'⟩ := look_of_mem (clIn_has (cs := []) e (PySem.mem_of_lookup e3))
            have := cl_look (scope := scope) (env := X.env) hc'
            rw [e] at this; cases this
            exact ⟨c, hc', o, hk c o ho, hd⟩
  · obtain ⟨v, o, ho, hd⟩ := I.cell x c (cl_look e)
    exact ⟨v, o, hk c o ho, hd⟩
  · show (seen lv caps σ).length = N'.length
    unfold seen
    rw [List.length_append, List.length_replicate, List.length_map, ok.len]
noncomputable def Stays (σ σ2 : St) : Prop := ∀ (j : Nat) v, σ[j]? = some (some v) → σ2[j]? = some (some v)
noncomputable def GKeep (g : TG) (lv : Nat) (caps : List Nat) : Prop := ∀ (σ : St) (y : V) (H' : Hp) (Q : St → Hp → Prop), g y (seen lv caps σ) H' Q → g y (seen lv caps σ) H' fun σ2 H2 => Q σ2 H2 ∧ Stays (seen lv caps σ) σ2
theorem stays_set {lv : Nat} {caps : List Nat} {σ σ2 : St} {i : Nat} {y : V} (hi : i < lv) (h : Stays (seen lv caps σ) σ2) : Stays (seen lv caps σ) (σ2.set i (some y)) := by
  intro j v e
  by_cases hj : i = j
  · subst hj
    unfold seen at e
    rw [List.getElem?_append_left (by simpa using hi), List.getElem?_replicate_of_lt hi] at e
    cases e
  · rw [List.getElem?_set_ne hj]
    exact h j v e
theorem keep_name {i lv : Nat} {caps : List Nat} (hi : i < lv) : GKeep (gName i) lv caps := fun _ _ _ _ q => ⟨q, stays_set hi fun _ _ e => e⟩
theorem keep_two {K : PySem.W.Frag} {i k lv n : Nat} {caps : List Nat} (hi : i < lv) (hk : k < lv) : GKeep (gTup K n (gCons (gName i) (gCons (gName k) gNil))) lv caps := by
  rintro σ y H' Q ⟨a, xs, e1, hq, hl, v, r, e2, v', r', e3, e4, q⟩
  exact ⟨a, xs, e1, hq, hl, v, r, e2, v', r', e3, e4, q, stays_set hk (stays_set hi fun _ _ e => e)⟩
theorem compLoop_any {prog : Program} {w : World} {A : Around} {s : Shared} {elt tg iter : Expr} {scope : Scope} {pos : Pos} {it acc : Value} {env : Env} {R : Result → Shared → Prop} (J : Nat → Shared → Prop)
    (turn : ∀ n s, J n s → wpAny (model prog w) A (pyNext it) (fun r s1 => match r with
      | none => R (.ok .next) s1
      | some v => wpAny (model prog w) A (letOwnedTupleGo tg it v) (fun _ s2 => wpAny (model prog w) A (assign tg env v) (fun _ s3 => wpAny (model prog w) A (eval elt env) (fun x s4 =>
          wpAny (model prog w) A (call (.builtin "list.append") [acc, x]) (fun _ s5 => ∃ m, m < n ∧ J m s5) (notedBy (model prog w) A env fun e s' => R (.error e) s') s4) (notedBy (model prog w) A env fun e s' => R (.error e) s') s3)
          (notedBy (model prog w) A env fun e s' => R (.error e) s') s2) (notedBy (model prog w) A env fun e s' => R (.error e) s') s1) (notedBy (model prog w) A env fun e s' => R (.error e) s') s)
    (n : Nat) (h : J n s) : codeAny (model prog w) A (.compLoop (.ListComp elt [⟨tg, iter, [], 0⟩] scope pos) 0 it acc env) R s := by
  refine codeAny_loop rfl J (fun n s hJ => ?_) n h
  show wpAny _ A ((compTurn (.ListComp elt [⟨tg, iter, [], 0⟩] scope pos) 0 it acc env).onRaise (fun x => do noteFrame x env; theTreesLotGoes x)) _ _ s
  refine wpAny_noted ?_; rw [compTurn_list]
  refine wpAny_bind (wpAny_standAt (wpAny_bind (wpAny_mono (turn n s hJ) (fun r s1 h1 => ?_) fun _ _ z => z)))
  match r, h1 with
  | none, h1 => exact wpAny_pure h1
  | some v, h1 =>
    refine wpAny_bind (wpAny_mono h1 (fun _ s2 h2 => ?_) fun _ _ z => z)
    refine wpAny_bind (wpAny_mono h2 (fun _ s3 h3 => wpAny_bind (wpAny_mono (wpAny_tests_nil (Q := fun ok q => ok = true ∧ q = s3) ⟨rfl, rfl⟩) (fun ok q hq => ?_) fun _ _ z => z)) fun _ _ z => z)
    obtain ⟨e1, e2⟩ := hq
    subst e1 e2
    exact wpAny_bind (wpAny_bind (wpAny_mono h3 (fun x s4 h4 => wpAny_bind (wpAny_mono h4 (fun _ s5 h5 => wpAny_pure (wpAny_pure ⟨rfl, h5⟩)) fun _ _ z => z)) fun _ _ z => z))
theorem comp_loop {elt iter : Expr} {tg : Expr} {pos : Pos} {scope : Scope} {g : TG} {te : TE} {lv : Nat} {caps : List Nat} {N' : List Str} {fp : List Addr} {it D C : Addr} {tn : Nat → Heap → Prop} {J : It} {H3 : Hp} {s3 s4 : Shared} {Q : VK} {W : Nat → Nat → List V → Hp → Prop} {m0 : Nat}
    (hc : X.calm = true) (T : Turn X.prog X.w X.K tg J fp it tn) (hC : s3.heap.objs.size ≤ C) (I3 : Inv X pins σ H3 s3) (f3 : ∀ b ∈ fp, FpOk X pins H3 b) (hCf : ∀ b ∈ fp, b ≠ C) (I4 : Inv (X.comp scope C N' s3 H3 fp) [] (seen lv caps σ) H3 s4) (st4 : tn 0 s4.heap) (w0 : W 0 m0 [] H3)
    (turn : ∀ i m ys H, W i m ys H → H D = some (.lst ys) ∧ ys.length < sizeLine ∧ ((J.stop i H ∧ Q (.ref D) H) ∨ (J.go i H ∧ ∀ x H', J.yld i H x H' → g x (seen lv caps σ) H' fun σ2 H2 => te σ2 H2 fun v H3 => H3 D = some (.lst ys) ∧
      ∃ m', m' < m ∧ W (i + 1) m' (ys ++ [v]) (upd H3 D (.lst (ys ++ [v]))))))
    (hgk : GKeep g lv caps) (hg : PG (X.comp scope C N' s3 H3 fp) tg g) (he : PE (X.comp scope C N' s3 H3 fp) elt te) :
    codeAny (model X.prog X.w) X.A (.compLoop (.ListComp elt [⟨tg, iter, [], 0⟩] scope pos) 0 (.ref it) (.ref D) (compEnvC scope (clOf scope X.env) C X.env))
      (compPost (model X.prog X.w) X.A X.xe none (EP X pins σ Q) (.ref D) C) s4 := by
  have stat : ∀ {H' : Hp}, (∀ b ∈ fp, H' b = none) → ∀ b ∈ fp, FpOk (X.comp scope C N' s3 H3 fp) [] H' b := fun {H'} hn b hb =>
    ⟨hn b hb, hCf b hb, fun z => I4.ok.exfs b hb z, .inl hb, fun y c e => (I4.ok.exf b hb).2 y c e, fun p hp => absurd (show p ∈ ([] : List (Addr × Obj)) from hp) (by simp)⟩
  refine compLoop_any (fun n s' => ∃ i ys H', Inv (X.comp scope C N' s3 H3 fp) [] (seen lv caps σ) H' s' ∧ tn i s'.heap ∧ (∀ b ∈ fp, H' b = none) ∧ W i n ys H') ?_ m0 ⟨0, [], _, I4, st4, fun b hb => (f3 b hb).1, w0⟩
  rintro n s5 ⟨i, ys, H5, I5, st5, fr5, w5⟩
  obtain ⟨hD, hlen, hcase⟩ := turn i n ys H5 w5
  rcases hcase with ⟨stop, q⟩ | ⟨go, step⟩
  · refine thn (T.done (X.comp scope C N' s3 H3 fp) rfl rfl rfl hc i [] s5 _ H5 _ I5 (stat fr5) st5 stop) fun r s6 hr => ?_
    obtain ⟨hr, I6⟩ := hr
    subst hr
    obtain ⟨m, hn, _⟩ := I6.loc
    refine ⟨m, hn, fun h' hs' => ?_⟩
    have ub := I6.base
    have neC : ∀ b o, s3.heap.get? b = some o → b ≠ C := fun b o q => Nat.ne_of_lt (Nat.lt_of_lt_of_le (Heap.lt_size q) hC)
    refine ⟨.ref D, H5, I3.call' (ch := fp) (s' := { s6 with heap := h' }) I6.os ⟨fun b o q n hb hx => (hs'.2 b (neC b o q)).trans (ub.keep b o q n hb hx), fun b o q n hb hx => ?_, ub.free, fun b o q hx => ?_, ub.tups, ub.frzs, ub.tbls⟩ ?_ I6.bare (fun b hb => ?_), rfl, q⟩
    · obtain ⟨sl, e⟩ := ub.slot b o q n hb hx
      exact ⟨sl, (hs'.2 b (neC b o q)).trans e⟩
    · obtain ⟨o', e⟩ := ub.there b o q hx
      exact ⟨o', (hs'.2 b (neC b o q)).trans e⟩
    · intro b o q
      refine (I6.hok b o q).stay (fun c u hc' q' => (hs'.2 c ?_).trans q') (fun _ z => z) fun _ _ z => z
      intro ec
      have fC : H5 C = none := I6.free
      rcases hc' with z | z
      · rw [← z, ec, fC] at q; cases q
      · rw [ec, fC] at z; cases z
    · obtain ⟨_, y1, _, y3, y4, y5⟩ := f3 b hb
      exact ⟨y3, y1, y4, y5⟩
  · refine thn (T.item (X.comp scope C N' s3 H3 fp) rfl rfl rfl hc i [] s5 _ H5 _ I5 (stat fr5) st5 go) fun r s6 hr => ?_
    obtain ⟨u, hr, h6⟩ := hr
    subst hr
    refine thn h6 fun _ s7 h7 => ?_
    obtain ⟨y, H7, I7, r7, y7, st7, fr7⟩ := h7
    have I7' := I7.pinned (stat fr7) (T.obj _ _ st7)
    refine wpAny_mono (hg _ s7 _ H7 y u _ I7' r7 (hgk σ y H7 _ (step y H7 y7))) (fun _ s8 h8 => ?_) (fun _ _ z => z.elim)
    obtain ⟨σ8, H8, I8, q8, ks⟩ := h8
    refine wpAny_mono (he _ s8 σ8 H8 _ I8 q8) (fun v s9 h9 => ?_) (fun _ _ z => z.elim)
    obtain ⟨z9, H9, I9, r9, hD9, m', hm', w9⟩ := h9
    refine wpAny_mono (mt_append (X := X.comp scope C N' s3 H3 fp) _ s9 σ8 H9 (.ref D) [z9] (.ref D) [v] (fun _ H' => H' = upd H9 D (.lst (ys ++ [z9]))) I9 rfl (.cons r9 .nil) ⟨D, ys, z9, rfl, rfl, hD9, hlen, rfl⟩) (fun _ s10 h10 => ?_) (fun _ _ z => z.elim)
    obtain ⟨_, H10, I10, _, rfl⟩ := h10
    refine ⟨m', hm', i + 1, ys ++ [z9], _, I10.unpinned.weak ?_ ?_, T.keep _ _ _ st7 fun b hb o e => (I10.pin (b, o) (List.mem_append_right _ (List.mem_append_right _ (mem_pinsAt hb e)))).1, fun b hb => ?_, w9⟩
    · rw [I10.len]; exact I4.len
    · exact ks
    · obtain ⟨o, e, d⟩ := T.obj _ _ st7 b hb
      exact (I10.pin (b, o) (List.mem_append_right _ (List.mem_append_right _ (mem_pinsAt hb e)))).2.1
theorem pe_comp {elt iter : Expr} {tg : Expr} {pos : Pos} {scope : Scope} {wi : TI} {g : TG} {te : TE} {lv : Nat} {caps : List Nat} {N' : List Str} (hc : X.calm = true) (ok : CompOk X scope lv caps N') (hgk : GKeep g lv caps) (hi : PI X tg iter wi)
    (hg : ∀ C s H fp, PG (X.comp scope C N' s H fp) tg g) (he : ∀ C s H fp, PE (X.comp scope C N' s H fp) elt te) (hs : ∀ y, foldedSetIterable iter X.env y = pure y := by intro _; rfl) :
    PE X (.ListComp elt [⟨tg, iter, [], 0⟩] scope pos) (tComp wi g te lv caps) := by
  intro pins s σ H Q I h
  rw [eval_ListComp]
  refine wpAny_comprehension_free (use := none) rfl hs (closure_eq fun y hy hk => I.ok.has y.1 (ok.free y hy hk)) ok.kind ok.loc (thn (hi pins s σ H _ I h) fun v s1 h1 => thn h1 fun itv s2 h2 => ?_)
  obtain ⟨it, fp, tn, J, H2, e, I2, T, st2, f2, hW⟩ := h2
  subst e
  have fpl : ∀ b ∈ fp, b < s2.heap.objs.size := fun b hb => by obtain ⟨o, e, _⟩ := T.obj 0 _ st2 b hb; exact Heap.lt_size e
  refine wpAny_newObj_type ?_
  have I3 : Inv X pins σ (upd H2 s2.heap.objs.size (.lst [])) { s2 with heap := s2.heap.push { cls := .type "list", data := .seq ([] : List Value).toArray }, toks := s2.toks } := I2.lnew (its := []) .nil (Nat.zero_le _)
  obtain ⟨W, ⟨m0, w0⟩, turn⟩ := hW s2.heap.objs.size I2.fresh
  refine wpAny_newFunctionEnv ok.cell (by intro y hy; simp at hy) (fun h₁ hns₁ hsb₁ => ?_) ok.kind
  have hk3 : ∀ b o, (s2.heap.push { cls := .type "list", data := .seq ([] : List Value).toArray }).get? b = some o → h₁.get? b = some o := fun b o q =>
    (hsb₁.2 b (Nat.ne_of_lt (Heap.lt_size q))).trans (Heap.get?_push_of_some _ q)
  have f3 : ∀ b ∈ fp, FpOk X pins (upd H2 s2.heap.objs.size (.lst [])) b := fun b hb => by
    obtain ⟨n, r⟩ := f2 b hb
    exact ⟨by rw [upd_ne (Nat.ne_of_lt (fpl b hb))]; exact n, r⟩
  have fpl3 : ∀ b ∈ fp, b < (s2.heap.push { cls := .type "list", data := .seq ([] : List Value).toArray }).objs.size := fun b hb => by rw [Heap.size_push]; exact Nat.lt_succ_of_lt (fpl b hb)
  have I4 := inv_comp ok I3 f3 hns₁ hk3 fpl3 (s2.toks + 0)
  have st4 : tn 0 h₁ := T.keep _ _ _ st2 fun b hb o q => hk3 b o (Heap.get?_push_of_some _ q)
  have loop := comp_loop (elt := elt) (iter := iter) (pos := pos) (s4 := { s2 with heap := h₁, toks := s2.toks + 0 }) hc T (Nat.le_refl _) I3 f3 (fun b hb => Nat.ne_of_lt (fpl3 b hb)) I4 st4 w0 turn hgk (hg _ _ _ _) (he _ _ _ _)
  exact codeAny_compStart_list loop (T.self _ 0 _ _ _ st4 loop)
end
end L2
set_option Elab.async false
set_option linter.all false
set_option maxRecDepth 100000
set_option maxHeartbeats 2000000
namespace L2
open PySem PySem.Spec PyProof.Rows
section
variable {X : Cx}
inductive rIsi (K : PySem.W.Frag) (xs : List V) (H : Hp) (Q : VK) : Prop
  | mk (x : V) (t : Value) (c : String) (b : Bool) (e : xs = [x, .ty c]) (ty : TyOf K H x t) (k : PySem.W.kitOne K t (.type c) = some b) (q : Q (.bl b) H) : rIsi K xs H Q
theorem call_isi : CallR X (.builtin "isinstance") (rIsi X.K) := by
  intro pins s σ H xs us Q I r h
  obtain ⟨x, t, c, b, rfl, ty, e, q⟩ := h
  obtain ⟨u, v, rfl, rx, rc⟩ := vals2 r
  cases rc
  exact isinst_ok I rx ty e fun tk => ⟨.bl b, H, I.tok _, rfl, q⟩
theorem call_sorted : CallR X (.builtin "sorted") (fun xs H Q => ∃ p, ∃ ns : List Int, xs = [.ref p] ∧ SqL X.K H p (ns.map V.int) ∧ ns.length < 64 ∧
    ∀ l (ns' : List Int), H l = none → ns'.Perm ns → ns'.Pairwise (· ≤ ·) → Q (.ref l) (upd H l (.lst (ns'.map V.int)))) := by
  intro pins s σ H xs us Q I r h
  obtain ⟨p, ns, rfl, hq, h64, q⟩ := h
  obtain ⟨u, rfl, rx⟩ := vals1 r
  cases rx
  obtain ⟨its, rv, pl, hz⟩ := I.list hq
  have hI := intsAre_of rv
  have hlen : its.length = ns.length := by rw [← rv.length, List.length_map]
  refine sorted_ints pl.isList hI (by omega) fun out ns' a1 a2 a3 => ?_
  obtain ⟨e, he⟩ := sortedAll_at s.heap its out
  have hl : s.heap.objs.size ≤ s.heap.objs.size + 1 := Nat.le_succ _
  refine ⟨.ref (s.heap.objs.size + 1), _, I.laid (t' := s.toks) (o := .lst (ns'.map V.int)) (fun b o z => sortedAll_old z) hl ?_, rfl, q _ ns' (I.hok.fresh hl) a2 a3⟩
  have e2 : out = out.toList.toArray := by simp
  refine ⟨?_, out.toList, e, vals_ints a1, by rw [← e2]; exact he⟩
  rw [List.length_map, a2.length_eq, ← hlen]
  have := line63
  have h2 : (64 : Nat) ≤ sizeLine := by decide
  omega
theorem call_minL (hc : X.calm = true) : CallR X (.builtin "min") (fun xs H Q => ∃ p, ∃ ns : List Int, xs = [.ref p] ∧ SqL X.K H p (ns.map V.int) ∧ ns ≠ [] ∧ ∀ m, m ∈ ns → (∀ a ∈ ns, m ≤ a) → Q (.int m) H) := by
  intro pins s σ H xs us Q I r h
  obtain ⟨p, ns, rfl, hq, hne, q⟩ := h
  obtain ⟨u, rfl, rx⟩ := vals1 r
  cases rx
  obtain ⟨its, rv, pl, hz⟩ := I.list hq
  have hI := intsAre_of rv
  obtain ⟨xs, e⟩ := hI.allInts.items
  have hns : ns = xs.toList.map (·.1) := by rw [← hI.numsOf, ← nums_intItems, ← e]
  have hsz : 0 < xs.size := by
    have h3 : 0 < ns.length := List.length_pos_iff.mpr hne
    rw [hns, List.length_map, Array.length_toList] at h3; exact h3
  have hl := pl.isList
  rw [e] at hl
  refine min_intList (I.ok.hd hc) hl hsz fun v h' tk hv hk => ?_
  obtain ⟨t, rfl⟩ := intItems_at hv
  obtain ⟨h1, h2⟩ := argBest_lt (numAt xs) (xs.size - 1)
  refine ⟨.int _, H, I.kept hk, ⟨t, rfl⟩, q _ ?_ fun a ha => ?_⟩
  · rw [hns, numAt_eq]; exact PySem.getD_mem (by rw [List.length_map, Array.length_toList]; omega)
  · rw [hns] at ha
    obtain ⟨j, hj, rfl⟩ := mem_getD ha
    rw [List.length_map, Array.length_toList] at hj
    rw [← numAt_eq]; exact h2 j (by omega)
theorem call_maxL (hc : X.calm = true) : CallR X (.builtin "max") (fun xs H Q => ∃ p, ∃ ns : List Int, xs = [.ref p] ∧ SqL X.K H p (ns.map V.int) ∧ ns ≠ [] ∧ ∀ m, m ∈ ns → (∀ a ∈ ns, a ≤ m) → Q (.int m) H) := by
  intro pins s σ H xs us Q I r h
  obtain ⟨p, ns, rfl, hq, hne, q⟩ := h
  obtain ⟨u, rfl, rx⟩ := vals1 r
  cases rx
  obtain ⟨its, rv, pl, hz⟩ := I.list hq
  have hI := intsAre_of rv
  obtain ⟨xs, e⟩ := hI.allInts.items
  have hns : ns = xs.toList.map (·.1) := by rw [← hI.numsOf, ← nums_intItems, ← e]
  have hsz : 0 < xs.size := by
    have h3 : 0 < ns.length := List.length_pos_iff.mpr hne
    rw [hns, List.length_map, Array.length_toList] at h3; exact h3
  have hl := pl.isList
  rw [e] at hl
  refine max_intList (I.ok.hd hc) hl hsz fun v h' tk hv hk => ?_
  obtain ⟨t, rfl⟩ := intItems_at hv
  obtain ⟨h1, h2⟩ := argBest_gt (numAt xs) (xs.size - 1)
  refine ⟨.int _, H, I.kept hk, ⟨t, rfl⟩, q _ ?_ fun a ha => ?_⟩
  · rw [hns, numAt_eq]; exact PySem.getD_mem (by rw [List.length_map, Array.length_toList]; omega)
  · rw [hns] at ha
    obtain ⟨j, hj, rfl⟩ := mem_getD ha
    rw [List.length_map, Array.length_toList] at hj
    rw [← numAt_eq]; exact h2 j (by omega)
theorem call_all (hc : X.calm = true) : CallR X (.builtin "all") (fun xs H Q => ∃ p, ∃ bs : List Bool, xs = [.ref p] ∧ SqL X.K H p (bs.map V.bl) ∧ Q (.bl (bs.all id)) H) := by
  intro pins s σ H xs us Q I r h
  obtain ⟨p, bs, rfl, hq, q⟩ := h
  obtain ⟨u, rfl, rx⟩ := vals1 r
  cases rx
  obtain ⟨its, rv, pl, hz⟩ := I.list hq
  have hl := pl.isList
  have hlt : p < s.heap.objs.size := by obtain ⟨_, e, _⟩ := id hl; exact Heap.lt_size e
  have htr : TruthOf X.prog X.w X.A.in1 (fun i v => its.toArray[i]? = some v) (fun i => (bs[i]?).getD true) := by
    intro i v s' Q' E' hv hQ
    have hv' : its[i]? = some v := by simpa using hv
    cases hb : bs[i]? with
    | none =>
      have : its[i]? = none := rv.none_of (by rw [List.getElem?_map, hb]; rfl)
      rw [this] at hv'; cases hv'
    | some b =>
      obtain ⟨u, hu, ru⟩ := rv.get (x := .bl b) (i := i) (by rw [List.getElem?_map, hb]; rfl)
      rw [hv'] at hu; cases hu
      cases ru
      dsimp only at hQ
      rw [hb] at hQ
      exact wpAny_truthy_bool hQ
  refine call_all_walk (wpAny_pyIter_list hl ⟨_, _, _, _, _, _, _, rfl, Walks.list (A := X.A.in1) (I.ok.hd hc) _ p (Nat.ne_of_lt hlt) its.toArray, ⟨⟨_, Heap.get?_push_size _ rfl, rfl, rfl⟩, hl.push _⟩, htr, fun h' tk hk => ?_⟩)
  have keep : ∀ b o, s.heap.get? b = some o → h'.get? b = some o := fun b o e => hk b o (by simp; exact Nat.ne_of_lt (Heap.lt_size e)) (Heap.get?_push_of_some _ e)
  refine ⟨.bl (bs.all id), H, I.kept keep, ?_, q⟩
  have hlen : its.toArray.size = bs.length := by rw [List.size_toArray, ← rv.length, List.length_map]
  have ha : ((List.range its.toArray.size).all fun i => (bs[i]?).getD true) = bs.all id := by
    rw [hlen]
    apply Bool.eq_iff_iff.mpr
    simp only [List.all_eq_true, List.mem_range]
    constructor
    · intro h b hb
      obtain ⟨i, hi, e⟩ := List.mem_iff_getElem.mp hb
      have := h i hi
      rw [List.getElem?_eq_getElem hi, e] at this
      exact this
    · intro h i hi
      rw [List.getElem?_eq_getElem hi]
      exact h _ (List.getElem_mem hi)
  show Value.bool _ = Value.bool _
  rw [ha]
mutual
inductive RdD (K : PySem.W.Frag) (H : Hp) : V → PyData → Prop where
  | non : RdD K H .non .none
  | bl (b : Bool) : RdD K H (.bl b) (.bool b)
  | int (i : Int) : RdD K H (.int i) (.int i)
  | str (x : Str) : RdD K H (.str x) (.str x)
  | lst {a : Addr} {xs : List V} {ds : List PyData} : SqL K H a xs → RdDs K H xs ds → RdD K H (.ref a) (.list ds)
  | tup {a : Addr} {xs : List V} {ds : List PyData} : SqT K H a xs → RdDs K H xs ds → RdD K H (.ref a) (.tuple ds)
inductive RdDs (K : PySem.W.Frag) (H : Hp) : List V → List PyData → Prop where
  | nil : RdDs K H [] []
  | cons {x : V} {d : PyData} {xs : List V} {ds : List PyData} : RdD K H x d → RdDs K H xs ds → RdDs K H (x :: xs) (d :: ds)
end
theorem RdDs.ints {K : PySem.W.Frag} {H : Hp} : ∀ ns : List Int, RdDs K H (ns.map V.int) (ns.map PyData.int)
  | [] => .nil
  | _ :: r => .cons (.int _) (RdDs.ints r)
mutual
theorem reads_of {pins : List (Addr × Obj)} {σ : St} {H : Hp} {s : Shared} (I : Inv X pins σ H s) : ∀ {x : V} {d : PyData} {u : Value}, RdD X.K H x d → RelV x u → ∃ as, Reads s.heap u d as
  | _, _, _, .non, r => by cases r; exact ⟨_, .none⟩
  | _, _, _, .bl b, r => by cases r; exact ⟨_, .bool b⟩
  | _, _, _, .int i, r => by obtain ⟨t, rfl⟩ := r; exact ⟨_, .int i t⟩
  | _, _, _, .str x, r => by obtain ⟨t, rfl⟩ := r; exact ⟨_, .str x t⟩
  | _, _, _, .lst hq hs, r => by
    cases r
    obtain ⟨its, rv, pl, _⟩ := I.list hq
    obtain ⟨o, ho, hc, n, hd⟩ := pl.isList
    obtain ⟨as, h⟩ := reads_all I hs rv
    exact ⟨_, .list ho hc hd (by simpa using h)⟩
  | _, _, _, .tup hq hs, r => by
    cases r
    obtain ⟨its, rv, ⟨o, ho, hc, n, hd⟩, _⟩ := I.tuple hq
    obtain ⟨as, h⟩ := reads_all I hs rv
    exact ⟨_, .tuple ho hc hd (by simpa using h)⟩
theorem reads_all {pins : List (Addr × Obj)} {σ : St} {H : Hp} {s : Shared} (I : Inv X pins σ H s) : ∀ {xs : List V} {ds : List PyData} {us : List Value}, RdDs X.K H xs ds → Vals xs us → ∃ as, ReadsAll s.heap us ds as
  | _, _, _, .nil, .nil => ⟨_, .nil⟩
  | _, _, _, .cons h t, .cons r q => by
    obtain ⟨as, h1⟩ := reads_of I h r
    obtain ⟨bs, h2⟩ := reads_all I t q
    exact ⟨_, .cons h1 h2⟩
end
inductive rEqD (K : PySem.W.Frag) (x y : V) (H : Hp) (Q : VK) : Prop
  | mk (d e : PyData) (rx : RdD K H x d) (ry : RdD K H y e) (sd : SeqAt.shaped d = true) (se : SeqAt.shaped e = true) (q : Q (.bl (PyData.eqv d e)) H) : rEqD K x y H Q
theorem op_eqD (hu : X.A.units + 64 < cLine) : OpR X (compareOp .Eq) (rEqD X.K) := by
  intro pins s σ H x y v u Q I rx ry h
  obtain ⟨d, e, hd, he, s1, s2, q⟩ := h
  obtain ⟨as, r1⟩ := reads_of I hd rx
  obtain ⟨bs, r2⟩ := reads_of I he ry
  exact eq_dataH r1 r2 s1 s2 hu ⟨.bl _, H, I, rfl, q⟩
end
end L2
set_option Elab.async false
set_option linter.all false
set_option maxRecDepth 100000
set_option maxHeartbeats 2000000
namespace L2
open PySem PySem.Spec PyProof.Rows
inductive Sp1 (f : V → Hp → VK → XK → Prop) (vs : List V) (H : Hp) (Q : VK) (E : XK) : Prop
  | mk (a : V) (e : vs = [a]) (h : f a H Q E) : Sp1 f vs H Q E
inductive Sp2 (f : V → V → Hp → VK → XK → Prop) (vs : List V) (H : Hp) (Q : VK) (E : XK) : Prop
  | mk (a b : V) (e : vs = [a, b]) (h : f a b H Q E) : Sp2 f vs H Q E
inductive Sp3 (f : V → V → V → Hp → VK → XK → Prop) (vs : List V) (H : Hp) (Q : VK) (E : XK) : Prop
  | mk (a b c : V) (e : vs = [a, b, c]) (h : f a b c H Q E) : Sp3 f vs H Q E
structure Def (K : PySem.W.Frag) (mg : Str → Option Value) (x : Str) (st : Stmt) : Prop where
  ex : ∃ f fd, Fun K x x st f fd ∧ mg x = some (.ref f)
theorem def_mk {K : PySem.W.Frag} {h : Heap} {mg : Str → Option Value} {x : Str} {st : Stmt} {f : Addr} {oc : Value} {od an : Option Addr} {osl : Array (Option Value)} {kV doc pm cdv ct : Value} (X : K.In h) (G : h.Ns mainGlobals mg)
    (a : PySem.W.nsIn K mainGlobals x = some (some (.ref f))) (l : K.lookup f = some ⟨oc, od, .func (PySem.W.fnOf x x (defArgs st) (defBody st) (defScope st) .none kV doc pm an cdv ct), osl⟩) (c : PySem.W.codeIn K cdv x = true) (k : PySem.W.keepIn K (.ref f) = true) : Def K mg x st :=
  ⟨f, _, fun_mk l c k, PySem.W.mg_of X G a⟩
structure FnS (P : Program) (w : World) (K : PySem.W.Frag) (mg : Str → Option Value) (base : Heap) (x : Str) (ps : List Str) (k : Nat) (sp : Sp) : Prop where
  ex : ∃ f fd, FnOk P w K mg base (CX1 P w) k f fd ps sp ∧ mg x = some (.ref f) ∧ PySem.W.keepIn K (.ref f) = true ∧ Binds K fd ps []
noncomputable def BindsAll (x : Str) (st : Stmt) (ps : List Str) : Prop := ∀ (kV doc pm : Value) (an : Option Addr) (cdv ct : Value) (us : List Value), us.length = ps.length → bindArgs (PySem.W.fnOf x x (defArgs st) (defBody st) (defScope st) .none kV doc pm an cdv ct) ⟨us, []⟩ = pure (ps.zip us)
section
variable {P : Program} {w : World} {K : PySem.W.Frag} {mg : Str → Option Value} {base : Heap}
theorem Def.ok {x : Str} {st : Stmt} {N ps : List Str} {k : Nat} {sp : Sp} (D : Def K mg x st) (S : FnScope N ps (defScope st)) (B : BindsAll x st ps) (len : ∀ vs H Q E, sp vs H Q E → vs.length = ps.length)
    (hbody : ∀ (f : Addr) (cdv : Value) (A : Around) (outer : List Env) (s : Shared) (H : Hp) (vs : List V) (Q : VK) (E : XK), Room k (A.deeper (envOfC x (defScope st) s.heap.objs.size f cdv)) → sp vs H Q E →
      ∃ t, PSs (cxOf (CX1 P w) P w K mg base N x (defScope st) f cdv A outer s H E) (defBody st) t ∧ t { nx := fun _ H' => Q .non H', rt := Q } (start N vs) H) : FnS P w K mg base x ps (k + 1) sp := by
  obtain ⟨f, fd, F, hm⟩ := D.ex
  exact ⟨f, fd, F.okX S len (hbody f), hm, F.kp, F.binds B⟩
theorem sp1_len {f : V → Hp → VK → XK → Prop} {a : Str} : ∀ vs H Q E, Sp1 f vs H Q E → vs.length = [a].length := fun _ _ _ _ ⟨_, e, _⟩ => by rw [e]; rfl
theorem sp2_len {f : V → V → Hp → VK → XK → Prop} {a b : Str} : ∀ vs H Q E, Sp2 f vs H Q E → vs.length = [a, b].length := fun _ _ _ _ ⟨_, _, e, _⟩ => by rw [e]; rfl
theorem sp3_len {f : V → V → V → Hp → VK → XK → Prop} {a b c : Str} : ∀ vs H Q E, Sp3 f vs H Q E → vs.length = [a, b, c].length := fun _ _ _ _ ⟨_, _, _, e, _⟩ => by rw [e]; rfl
end
section
variable {X : Cx}
inductive tCut (G : St → Hp → Prop) (t u : TS) (D : Ends) (σ : St) (H : Hp) : Prop
  | mk (h1 : ∀ σ' H', G σ' H' → u D σ' H') (h2 : t { D with nx := G } σ H) : tCut G t u D σ H
theorem pss_cut {st : Stmt} {rest : List Stmt} {t u : TS} (G : St → Hp → Prop) (h1 : PS X st t) (h2 : PSs X rest u) : PSs X (st :: rest) (tCut G t u) := by
  intro pins s σ H D I ⟨hA, hB⟩
  refine wpAny_execs_cons (thn (h1 pins s σ H { D with nx := G } I hB) fun f s1 q => ?_)
  cases f with
  | next =>
    obtain ⟨σ', H', I', q⟩ := q
    exact h2 pins s1 σ' H' D I' (hA σ' H' q)
  | ret v => exact q
  | brk => exact q
  | cont => exact q
theorem pe_fn {x : Str} {ps : List Str} {k k' : Nat} {sp : Sp} {E : XK} {p pos : Pos} {e : Expr} {es : List Expr} {t : TA} (F : FnS X.prog X.w X.K X.mg X.base x ps k' sp) (hr : Room k X.A) (hx : Passes (CX1 X.prog X.w) X E) (ha : PA X (e :: es) t) (hkk : k' ≤ k := by decide) (hg : Gl X x := by rfl)
    (hdb : (x == ("__debug__" : Str)) = false := by decide) (he : starEach (e :: es) X.env = (false, eval e X.env) :: starEach es X.env := by rfl) (hpl : (backTo pos (starEach es X.env)).any (·.1) = false := by rfl) :
    PE X (.Call (.Name x p) (e :: es) [] pos) (tCall sp [] E t) := by
  obtain ⟨f, fd, F, hm, hk, hb⟩ := F.ex
  exact pe_call F (hr.mono hkk) hg hm hk hb .nil hx ha hdb he hpl
theorem pex_fn {x : Str} {ps : List Str} {k k' : Nat} {sp : Sp} {p pos : Pos} {e : Expr} {es : List Expr} {t : TA} (O : Own X) (F : FnS X.prog X.w X.K X.mg X.base x ps k' sp) (hr : Room k X.A) (ha : PA X.nox (e :: es) t) (hkk : k' ≤ k := by decide) (hg : Gl X x := by rfl)
    (hdb : (x == ("__debug__" : Str)) = false := by decide) (he : starEach (e :: es) X.env = (false, eval e X.env) :: starEach es X.env := by rfl) (hpl : (backTo pos (starEach es X.env)).any (·.1) = false := by rfl) :
    PEx X (.Call (.Name x p) (e :: es) [] pos) (fun σ H Q E => t σ H fun vs H1 => sp (vs ++ []) H1 Q E) := by
  obtain ⟨f, fd, F, hm, hk, hb⟩ := F.ex
  exact pex_call O F (hr.mono hkk) hg hm hk hb .nil ha hdb he hpl
end
end L2
set_option Elab.async false
set_option linter.all false
set_option maxRecDepth 100000
set_option maxHeartbeats 2000000
namespace L2
open PySem PySem.Spec PyProof.Rows
section
variable {X : Cx}
theorem pe_ty {x : Str} {c : String} {pos : Pos} (hg : Gl X x) (hm : X.mg x = none) (hv : bootBuiltins x = some (.type c)) (hn : x ≠ "__name__" := by decide) (hd : (x == ("__debug__" : Str)) = false := by decide) : PE X (.Name x pos) (tC (.ty c)) :=
  pe_bltn (v := .ty c) hg hm hv rfl hn hd
inductive rCatS (K : PySem.W.Frag) (x y : V) (H : Hp) (Q : VK) : Prop
  | mk (l b : Addr) (xs zs : List V) (ex : x = .ref l) (ey : y = .ref b) (s : SqL K H l xs) (s' : SqL K H b zs) (z : xs.length + zs.length ≤ sizeLine) (q : ∀ p, H p = none → Q (.ref p) (upd H p (.lst (xs ++ zs)))) : rCatS K x y H Q
theorem op_catS : OpR X (binaryOp .Add) (rCatS X.K) := by
  intro pins s σ H x y v u Q I rx ry h
  obtain ⟨l, b, xs, zs, rfl, rfl, hH, hB, hz, q⟩ := h
  cases rx
  cases ry
  obtain ⟨its, r, pl, z⟩ := I.list hH
  obtain ⟨its2, r2, pl2, z2⟩ := I.list hB
  have l1 := r.length
  have l2 := r2.length
  have fin : EP X pins σ Q (.ref s.heap.objs.size) { s with heap := s.heap.push { cls := .type "list", data := .seq (its ++ its2).toArray } } :=
    ⟨.ref _, _, I.lnew (t' := s.toks) (r.append r2) (by rw [List.length_append]; omega), rfl, q _ I.fresh⟩
  obtain ⟨⟨c1, dd, d1, sl⟩, ho, hc, n, hd⟩ := pl.isList
  obtain ⟨⟨c2, dd2, d2, sl2⟩, ho2, hc2, n2, hd2⟩ := pl2.isList
  cases hc; cases hc2; cases hd; cases hd2
  refine concat_meets ⟨_, ho, rfl⟩ ⟨_, ho2, rfl⟩ noFill_list_add seq_list_add PySem.F.slot_list_add PySem.F.entry_list_add (PySem.F.args_list_add_2 _ _)
    (list_addW l b its.toArray its2.toArray n n2 dd dd2 sl sl2 (by rw [List.size_toArray, List.size_toArray]; omega)) ⟨ho, ho2, ?_⟩
  have ea : its.toArray ++ its2.toArray = (its ++ its2).toArray := by simp
  rw [ea]
  exact fin
theorem compcap0 {N' N : List Str} {scope : Scope} {lv : Nat} : ∀ (p j : Nat), ([] : List Nat)[p]? = some j → ∃ x, N'[lv + p]? = some x ∧ N[j]? = some x ∧ scope.names.lookup x = some .free := fun p j h => by simp at h
theorem compcap1 {N' N : List Str} {scope : Scope} {lv a : Nat} {x : Str} (h1 : N'[lv]? = some x) (h2 : N[a]? = some x) (h3 : scope.names.lookup x = some .free) :
    ∀ (p j : Nat), ([a] : List Nat)[p]? = some j → ∃ x, N'[lv + p]? = some x ∧ N[j]? = some x ∧ scope.names.lookup x = some .free := fun p j h => by
  cases p with
  | zero => have e : a = j := by simpa using h
            subst e; exact ⟨x, h1, h2, h3⟩
  | succ p => simp at h
theorem compcap2 {N' N : List Str} {scope : Scope} {lv a b : Nat} {x y : Str} (h1 : N'[lv]? = some x) (h2 : N[a]? = some x) (h3 : scope.names.lookup x = some .free) (h4 : N'[lv + 1]? = some y) (h5 : N[b]? = some y) (h6 : scope.names.lookup y = some .free) :
    ∀ (p j : Nat), ([a, b] : List Nat)[p]? = some j → ∃ x, N'[lv + p]? = some x ∧ N[j]? = some x ∧ scope.names.lookup x = some .free := fun p j h => by
  match p with
  | 0 => have e : a = j := by simpa using h
         subst e; exact ⟨x, h1, h2, h3⟩
  | 1 => have e : b = j := by simpa using h
         subst e; exact ⟨y, h4, h5, h6⟩
  | p + 2 => simp at h
end
section
variable {prog : Program} {w : World} {A : Around} {R : Result → Shared → Prop} {I : Addr} {fp wr : List Addr} {n : Nat} {Pi : Nat → Value → Prop} {St : Nat → Heap → Prop} {S : Addr} {dv : Value}
end
section
variable {X : Cx}
end
end L2
set_option Elab.async false
set_option linter.all false
set_option maxRecDepth 100000
set_option maxHeartbeats 2000000
namespace L2
open PySem PySem.Spec PyProof.Rows
noncomputable def plainE : Expr → Bool
  | .Starred .. => false
  | _ => true
theorem star_plain {e : Expr} {es : List Expr} {env : Env} (h : plainE e = true) : starEach (e :: es) env = (false, eval e env) :: starEach es env := by
  cases e <;> first | rfl | cases h
theorem any_plain {env : Env} {pos : Pos} : ∀ {es : List Expr}, es.all plainE = true → (backTo pos (starEach es env)).any (·.1) = false
  | [], _ => rfl
  | e :: es, h => by
    rw [List.all_cons, Bool.and_eq_true] at h
    rw [star_plain h.1]
    show (false || (backTo pos (starEach es env)).any (·.1)) = false
    rw [any_plain h.2]; rfl
section
variable {X : Cx} {e : Expr} {es : List Expr} {te : TE} {t : TA} {x : Str} {p pos : Pos} {id T : String} {r : List V → Hp → VK → Prop}
theorem ac (ha : PE X e te) (hr : PA X es t) (hs : plainE e = true := by rfl) : PA X (e :: es) (tCons te t) := pa_cons ha hr (star_plain hs)
theorem cBi (hc : CallR X (.builtin id) r) (hg : Gl X x) (hm : X.mg x = none) (hv : bootBuiltins x = some (.builtin id)) (ha : PA X (e :: es) t) (hs : plainE e = true := by rfl) (hp : es.all plainE = true := by rfl) (hn : x ≠ "__name__" := by decide) (hdb : (x == ("__debug__" : Str)) = false := by decide) :
    PE X (.Call (.Name x p) (e :: es) [] pos) (tCB r t) := pe_callB hc hg hm hv ha hn hdb (star_plain hs) (any_plain hp)
theorem cTy (hc : CallR X (.type T) r) (hg : Gl X x) (hm : X.mg x = none) (hv : bootBuiltins x = some (.type T)) (ha : PA X (e :: es) t) (hs : plainE e = true := by rfl) (hp : es.all plainE = true := by rfl) (hn : x ≠ "__name__" := by decide) (hdb : (x == ("__debug__" : Str)) = false := by decide) :
    PE X (.Call (.Name x p) (e :: es) [] pos) (tCB r t) := pe_callTy hc hg hm hv ha hn hdb (star_plain hs) (any_plain hp)
theorem cFn {ps : List Str} {k k' : Nat} {sp : Sp} {E : XK} (F : FnS X.prog X.w X.K X.mg X.base x ps k' sp) (hr : Room k X.A) (hx : Passes (CX1 X.prog X.w) X E) (ha : PA X (e :: es) t) (hkk : k' ≤ k := by decide) (hg : Gl X x := by rfl)
    (hs : plainE e = true := by rfl) (hp : es.all plainE = true := by rfl) (hdb : (x == ("__debug__" : Str)) = false := by decide) : PE X (.Call (.Name x p) (e :: es) [] pos) (tCall sp [] E t) :=
  pe_fn F hr hx ha hkk hg hdb (star_plain hs) (any_plain hp)
theorem xFn {ps : List Str} {k k' : Nat} {sp : Sp} (O : Own X) (F : FnS X.prog X.w X.K X.mg X.base x ps k' sp) (hr : Room k X.A) (ha : PA X.nox (e :: es) t) (hkk : k' ≤ k := by decide) (hg : Gl X x := by rfl)
    (hs : plainE e = true := by rfl) (hp : es.all plainE = true := by rfl) (hdb : (x == ("__debug__" : Str)) = false := by decide) :
    PEx X (.Call (.Name x p) (e :: es) [] pos) (fun σ H Q E => t σ H fun vs H1 => sp (vs ++ []) H1 Q E) := pex_fn O F hr ha hkk hg hdb (star_plain hs) (any_plain hp)
theorem CompOk.alone {scope : Scope} {lv : Nat} {N' : List Str} (kind : scope.kind = .function) (h : ∀ y ∈ scope.names, y.2 ≠ .cell ∧ y.2 ≠ .free) (loc : ∀ y ∈ scope.names, y.2 = .local → scope.names.lookup y.1 = some .local) (len : N'.length = lv) : CompOk X scope lv [] N' :=
  ⟨kind, fun y hy => (h y hy).1, fun y hy hz => absurd hz (h y hy).2, loc, len, compcap0⟩
theorem op_eqDK (K : PySem.W.Frag) (hu : X.A.units + 64 < cLine) (h : X.K = K := by rfl) : OpR X (compareOp .Eq) (rEqD K) := h ▸ op_eqD hu
end
noncomputable def Body (P : Program) (w : World) (K : PySem.W.Frag) (mg : Str → Option Value) (base : Heap) (N : List Str) (x : Str) (st : Stmt) (k : Nat) (sp : Sp) : Prop :=
  ∀ (f : Addr) (cdv : Value) (A : Around) (outer : List Env) (s : Shared) (H : Hp) (vs : List V) (Q : VK) (E : XK), Room k (A.deeper (envOfC x (defScope st) s.heap.objs.size f cdv)) → sp vs H Q E →
    ∃ t, PSs (cxOf (CX1 P w) P w K mg base N x (defScope st) f cdv A outer s H E) (defBody st) t ∧ t { nx := fun _ H' => Q .non H', rt := Q } (start N vs) H
theorem cx1_none {P : Program} {w : World} (H : Hp) (s : Shared) (e : Value) (s' : Shared) : CX1 P w [] H s (fun _ _ _ => False) e s' → False := fun ⟨_, _, _, _, _, _, _, _, _, _, h⟩ => h.elim
end L2
set_option Elab.async false
set_option linter.all false
set_option maxRecDepth 100000
set_option maxHeartbeats 2000000
namespace L2
open PySem PySem.Spec PyProof.Rows
section
variable {X : Cx} {pins : List (Addr × Obj)} {σ : List (Option V)} {H : Hp} {s : Shared} {h' : Heap}
theorem Inv.turnedL {t' : Nat} {fp : List Addr} (I : Inv X pins σ H s) (k : ∀ b o, b ∉ fp → s.heap.get? b = some o → h'.get? b = some o) (hf : ∀ b ∈ fp, FpOk X pins H b) : Inv X pins σ H { s with heap := h', toks := t' } := by
  have away : ∀ b u, H b = some u → b ∉ fp := fun b u e z => by rw [(hf b z).1] at e; cases e
  have hL : X.env.locals ∉ fp := fun z => (hf _ z).2.1 rfl
  refine I.step (g' := s.gens) (d' := s.drawn) (ch := fp) (fun b hb => ?_) (fun b o _ _ hc e _ => k b o hc e) (fun b o _ _ hc e _ => ⟨o.slots, k b o hc e⟩) (fun _ _ _ _ n => n)
    (fun b o hc e => ⟨o, k b o hc e⟩) (fun _ _ e => e) (fun _ _ _ e => e) (fun b ps e => ⟨#[], by rw [e]; simp⟩) (fun m hm => ?_) (fun b u e => ?_) I.bare
  · obtain ⟨_, h0, _, h1, h2, h3⟩ := hf b hb
    exact ⟨h1, h0, h2, h3⟩
  · obtain ⟨o, es, ep, ho, r⟩ := hm
    exact ⟨o, es, ep, k _ o hL ho, r⟩
  · refine (I.hok b u e).stay (fun c v hc q => k c v ?_ q) (fun _ q => q) fun _ _ q => q
    rcases hc with z | z
    · rw [z]; exact away b u e
    · exact away c _ z
end
inductive Knd | L | T
noncomputable def Knd.seq (k : Knd) (h : Heap) (a : Addr) (xs : Array Value) : Prop := match k with
  | .L => h.IsList a xs
  | .T => h.IsTuple a xs
noncomputable def Knd.it (k : Knd) (h : Heap) (j a : Addr) (n : Nat) : Prop := match k with
  | .L => h.IsListIter j a n
  | .T => h.IsTupleIter j a n
noncomputable def Knd.nm : Knd → String
  | .L => "list_iterator"
  | .T => "tuple_iterator"
noncomputable def Knd.sq (k : Knd) (K : PySem.W.Frag) (H : Hp) (a : Addr) (xs : List V) : Prop := match k with
  | .L => SqL K H a xs
  | .T => SqT K H a xs
theorem Knd.seq_at {k : Knd} {h h' : Heap} {a : Addr} {xs : Array Value} (x : k.seq h a xs) (e : ∀ o, h.get? a = some o → h'.get? a = some o) : k.seq h' a xs := by
  cases k <;> exact let ⟨o, ho, r⟩ := x; ⟨o, e _ ho, r⟩
theorem Knd.it_at {k : Knd} {h h' : Heap} {j a : Addr} {n : Nat} (x : k.it h j a n) (e : ∀ o, h.get? j = some o → h'.get? j = some o) : k.it h' j a n := by
  cases k <;> exact let ⟨o, ho, r⟩ := x; ⟨o, e _ ho, r⟩
theorem Knd.it_obj {k : Knd} {h : Heap} {j a : Addr} {n : Nat} (x : k.it h j a n) : ∃ o, h.get? j = some o ∧ o.cls = .type k.nm ∧ o.data = .fields #[.ref a, .int n 0] := by
  cases k <;> exact x
section
variable {prog : Program} {w : World} {A : Around} {E : Value → Shared → Prop} {s : Shared}
theorem nextOf_tup {j u : Addr} {n : Nat} {its : Array Value} {v : Value} {Q : Value → Shared → Prop} (hit : s.heap.IsTupleIter j u n) (ht : s.heap.IsTuple u its) (hx : its[n]? = some v)
    (hQ : ∀ h', h'.IsTupleIter j u (n + 1) → Heap.SameBut j s.heap h' → Q v { s with heap := h' }) : wpAny (model prog w) A (Builtin.SmallTypes.nextOf (.ref j)) Q E s := by
  obtain ⟨o, ho, hc, hd⟩ := id hit
  obtain ⟨ou, hou, _, nu, hdu⟩ := ht
  unfold Builtin.SmallTypes.nextOf; refine wpAny_bind (wpAny_callSpecial?_slot (name := Str.ofString "__next__") hit.typeIs F.slot_tuple_iterator_next (wpAny_call_entry F.slot_tuple_iterator_next hit.typeIs F.entry_tuple_iterator_next ?_ (F.args_tuple_iterator_next_1 _)))
  show wpAny _ _ (field (.ref j) 0 >>= _) _ _ s; refine wpAny_bind (wpAny_field ho hd (x := .ref u) rfl ?_)
  show wpAny _ _ (if (Value.ref u == Value.none) = true then _ else _) _ _ s; rw [if_neg (show ¬ ((Value.ref u == Value.none) = true) from Bool.false_ne_true)]
  show wpAny _ _ (field (.ref j) 1 >>= _) _ _ s; refine wpAny_bind (wpAny_field ho hd (x := .int n 0) rfl ?_)
  show wpAny _ _ (seqItems? (.ref u) >>= _) _ _ s; refine wpAny_bind (wpAny_seqItems hou hdu ?_); simp only [Int.toNat_natCast, hx]
  refine wpAny_bind (wpAny_setField ho hd (by simp) (wpAny_pure ⟨v, rfl, wpAny_pure (hQ _ ?_ (Heap.SameBut.update ..))⟩)); refine ⟨_, Heap.get?_update_self _ ho (Obj.isFreed_of_fields (Obj.data_mapFields hd _)), (Obj.cls_mapFields ..).trans hc, ?_⟩
  rw [Obj.data_mapFields hd]; simp [rawInt]
theorem nextOf_tup_end {j u : Addr} {n : Nat} {its : Array Value} {Q : Value → Shared → Prop} (hh : A.handled = none) (hit : s.heap.IsTupleIter j u n) (ht : s.heap.IsTuple u its) (hx : its[n]? = none)
    (hE : ∀ h' e, Heap.ExtBut j s.heap h' → (∃ o, h'.get? e = some o ∧ o.cls = .type "StopIteration") → E (.ref e) { s with heap := h' }) : wpAny (model prog w) A (Builtin.SmallTypes.nextOf (.ref j)) Q E s := by
  obtain ⟨o, ho, hc, hd⟩ := id hit
  obtain ⟨ou, hou, _, nu, hdu⟩ := ht
  unfold Builtin.SmallTypes.nextOf; refine wpAny_bind (wpAny_callSpecial?_slot (name := Str.ofString "__next__") hit.typeIs F.slot_tuple_iterator_next (wpAny_call_entry F.slot_tuple_iterator_next hit.typeIs F.entry_tuple_iterator_next ?_ (F.args_tuple_iterator_next_1 _)))
  show wpAny _ _ (field (.ref j) 0 >>= _) _ _ s; refine wpAny_bind (wpAny_field ho hd (x := .ref u) rfl ?_)
  show wpAny _ _ (if (Value.ref u == Value.none) = true then _ else _) _ _ s; rw [if_neg (show ¬ ((Value.ref u == Value.none) = true) from Bool.false_ne_true)]
  show wpAny _ _ (field (.ref j) 1 >>= _) _ _ s; refine wpAny_bind (wpAny_field ho hd (x := .int n 0) rfl ?_)
  show wpAny _ _ (seqItems? (.ref u) >>= _) _ _ s; refine wpAny_bind (wpAny_seqItems hou hdu ?_); simp only [Int.toNat_natCast, hx]
  refine wpAny_bind (wpAny_rule (wpAny_bind (wpAny_setField ho hd (by simp) ?_))); show wpAny _ _ (newExc (.type "StopIteration") [] >>= _) _ _ _
  refine wpAny_bind ?_; simp only [newExc, newTuple]; refine wpAny_bind (wpAny_newObj_type ?_ (by size_fits)); refine wpAny_bind (m := firstArgMember _ _) (wpAny_of_eq (a := Value.none) (by first | rfl | (simp only [firstArgMember]; rfl)) ?_)
  refine wpAny_newObj_type ?_ (by size_fits); simp only [raiseNew]; refine wpAny_bind (wpAny_handled ?_)
  first | rw [show A.in1.handled = none from hh]; refine wpAny_bind (wpAny_pure (wpAny_throw ?_)) | rw [hh]; refine wpAny_bind (wpAny_pure (wpAny_throw ?_))
  exact hE _ _ (((Heap.SameBut.update ..).extBut.push _).push _) ⟨_, Heap.get?_push_size _ rfl, rfl⟩
theorem Knd.next {k : Knd} {j u : Addr} {n : Nat} {its : Array Value} {v : Value} {Q : Value → Shared → Prop} (hit : k.it s.heap j u n) (ht : k.seq s.heap u its) (hx : its[n]? = some v)
    (hQ : ∀ h', k.it h' j u (n + 1) → Heap.SameBut j s.heap h' → Q v { s with heap := h' }) : wpAny (model prog w) A (Builtin.SmallTypes.nextOf (.ref j)) Q E s := by
  cases k with
  | L => exact wpAny_nextOf_list_item hit ht hx hQ
  | T => exact nextOf_tup hit ht hx hQ
theorem Knd.done {k : Knd} {j u : Addr} {n : Nat} {its : Array Value} {Q : Value → Shared → Prop} (hh : A.handled = none) (hit : k.it s.heap j u n) (ht : k.seq s.heap u its) (hx : its[n]? = none)
    (hE : ∀ h' e, Heap.ExtBut j s.heap h' → (∃ o, h'.get? e = some o ∧ o.cls = .type "StopIteration") → E (.ref e) { s with heap := h' }) : wpAny (model prog w) A (Builtin.SmallTypes.nextOf (.ref j)) Q E s := by
  cases k with
  | L => exact wpAny_nextOf_list_end hh hit ht hx hE
  | T => exact nextOf_tup_end hh hit ht hx hE
structure ZAt (h : Heap) (k1 k2 : Knd) (n a1 a2 : Addr) (i : Nat) (f0 : Value) : Prop where
  z : IsZip h (n + 4) (n + 2) (n + 3) f0
  ti : IsPair h (n + 2) (.ref n) (.ref (n + 1))
  to : ∃ a b, IsPair h (n + 3) a b
  i1 : k1.it h n a1 i
  i2 : k2.it h (n + 1) a2 i
noncomputable def zfp (n : Addr) : List Addr := [n + 4, n + 2, n + 3, n, n + 1]
theorem zip_item {k1 k2 : Knd} {n a1 a2 : Addr} {i : Nat} {xs ys : Array Value} {x y : Value} {Q : Option Value → Shared → Prop} (Z : ZAt s.heap k1 k2 n a1 a2 i .none) (d1 : a1 ∉ zfp n) (d2 : a2 ∉ zfp n) (h1 : k1.seq s.heap a1 xs) (h2 : k2.seq s.heap a2 ys) (hx : xs[i]? = some x) (hy : ys[i]? = some y)
    (hQ : ∀ h', ZAt h' k1 k2 n a1 a2 (i + 1) (rawInt s.heap.objs.size) → IsPair h' s.heap.objs.size x y → (∀ c o, c ∉ zfp n → s.heap.get? c = some o → h'.get? c = some o) → Q (some (.ref s.heap.objs.size)) { s with heap := h' }) :
    wpAny (model prog w) A (pyNext (.ref (n + 4))) Q E s := by
  obtain ⟨hz, hTI, ⟨a, b, hTO⟩, g1, g2⟩ := Z
  have nz : n ≠ n + 4 := Nat.ne_of_lt (Nat.lt_add_of_pos_right (by decide))
  have n1z : n + 1 ≠ n + 4 := by intro e; have := Nat.add_left_cancel e; exact absurd this (by decide)
  have n2z : n + 2 ≠ n + 4 := by intro e; have := Nat.add_left_cancel e; exact absurd this (by decide)
  have n3z : n + 3 ≠ n + 4 := by intro e; have := Nat.add_left_cancel e; exact absurd this (by decide)
  have n3n : n + 3 ≠ n := Nat.ne_of_gt (Nat.lt_add_of_pos_right (by decide))
  have n31 : n + 3 ≠ n + 1 := by intro e; have := Nat.add_left_cancel e; exact absurd this (by decide)
  have n32 : n + 3 ≠ n + 2 := by intro e; have := Nat.add_left_cancel e; exact absurd this (by decide)
  have n2n : n + 2 ≠ n := Nat.ne_of_gt (Nat.lt_add_of_pos_right (by decide))
  have n21 : n + 2 ≠ n + 1 := by intro e; have := Nat.add_left_cancel e; exact absurd this (by decide)
  have n1n : n + 1 ≠ n := Nat.ne_of_gt (Nat.lt_add_of_pos_right (by decide))
  have m1 : ∀ c, c ∈ zfp n → a1 ≠ c := fun c hc e => d1 (by rw [e]; exact hc)
  have m2 : ∀ c, c ∈ zfp n → a2 ≠ c := fun c hc e => d2 (by rw [e]; exact hc)
  have p4 : n + 4 ∈ zfp n := .head _
  have p3 : n + 3 ∈ zfp n := .tail _ (.tail _ (.head _))
  have p0 : n ∈ zfp n := .tail _ (.tail _ (.tail _ (.head _)))
  have p1 : n + 1 ∈ zfp n := .tail _ (.tail _ (.tail _ (.tail _ (.head _))))
  have ty : s.TypeIs (.ref (n + 4)) "zip" := ⟨_, hz, rfl⟩
  unfold pyNext
  refine wpAny_bind (wpAny_attempt (wpAny_callSpecial?_slot (name := Str.ofString "__next__") ty F.slot_zip_next (wpAny_call_entry F.slot_zip_next ty F.entry_zip_next ?_ (F.args_zip_next_1 _))))
  show wpAny _ _ (field (.ref (n + 4)) 2 >>= _) _ _ _; refine wpAny_bind (wpAny_field hz rfl (x := .bool false) rfl ?_)
  show wpAny _ _ (field (.ref (n + 4)) 3 >>= _) _ _ _; refine wpAny_bind (wpAny_field hz rfl (x := .ref (n + 2)) rfl ?_)
  refine wpAny_bind (wpAny_seqItems hTI rfl ?_); show wpAny _ _ (Builtin.SmallTypes.ownedTupleIsFree (.ref (n + 4)) >>= _) _ _ _
  refine wpAny_bind ?_; unfold Builtin.SmallTypes.ownedTupleIsFree; refine wpAny_bind (wpAny_field hz rfl (x := .none) rfl (wpAny_pure ?_)); simp only [if_true]
  refine wpAny_bind (wpAny_rule ?_); refine wpAny_bind (wpAny_field hz rfl (x := .ref (n + 3)) rfl ?_)
  refine wpAny_bind (wpAny_setField_rec hz (by simp) fun q1 hz1 s1 => ?_)
  replace hz1 : IsZip q1 (n + 4) (n + 2) (n + 3) .ellipsis := hz1
  refine wpAny_bind ?_; simp only [List.zipIdx_cons, List.zipIdx_nil, List.forIn_cons, List.forIn_nil]
  refine wpAny_bind (wpAny_bind (wpAny_onRaise ?_)); show wpAny _ _ (Builtin.SmallTypes.nextOf (.ref n) >>= _) _ _ _
  refine wpAny_bind (Knd.next (Knd.it_at (k := k1) g1 fun o e => s1.extBut _ _ nz e) (Knd.seq_at (k := k1) h1 fun o e => s1.extBut _ _ (m1 _ p4) e) hx fun q2 f2 s2 => wpAny_pure ?_)
  have hT2 : IsPair q2 (n + 3) a b := s2.extBut _ _ n3n (s1.extBut _ _ n3z hTO)
  refine wpAny_bind (wpAny_seqItems hT2 rfl ?_); refine wpAny_bind (wpAny_updateSeq_pair hT2 fun q3 hT3 s3 => ?_)
  replace hT3 : IsPair q3 (n + 3) x b := hT3
  refine wpAny_bind (wpAny_letGo (wpAny_pure ?_))
  refine wpAny_bind (wpAny_bind (wpAny_onRaise ?_)); show wpAny _ _ (Builtin.SmallTypes.nextOf (.ref (n + 1)) >>= _) _ _ _
  refine wpAny_bind (Knd.next (Knd.it_at (k := k2) g2 fun o e => s3.extBut _ _ n31.symm (s2.extBut _ _ n1n (s1.extBut _ _ n1z e))) (Knd.seq_at (k := k2) h2 fun o e => s3.extBut _ _ (m2 _ p3) (s2.extBut _ _ (m2 _ p0) (s1.extBut _ _ (m2 _ p4) e))) hy fun q4 f4 s4 => wpAny_pure ?_)
  have hT4 : IsPair q4 (n + 3) x b := s4.extBut _ _ n31 hT3
  refine wpAny_bind (wpAny_seqItems hT4 rfl ?_); refine wpAny_bind (wpAny_updateSeq_pair hT4 fun q5 hT5 s5 => ?_)
  replace hT5 : IsPair q5 (n + 3) x y := hT5
  refine wpAny_bind (wpAny_letGo (wpAny_pure (wpAny_pure ?_))); refine wpAny_bind (wpAny_seqItems hT5 rfl ?_); refine wpAny_bind (wpAny_newTuple ?_)
  have hsz : q5.objs.size = s.heap.objs.size := by rw [s5.1, s4.1, s3.1, s2.1, s1.1]
  have hz5 : IsZip q5 (n + 4) (n + 2) (n + 3) .ellipsis := s5.extBut _ _ n3z.symm (s4.extBut _ _ n1z.symm (s3.extBut _ _ n3z.symm (s2.extBut _ _ nz.symm hz1)))
  have keep5 : ∀ c o, c ∉ zfp n → s.heap.get? c = some o → q5.get? c = some o := fun c o hc e =>
    s5.extBut _ _ (fun z => hc (by rw [z]; exact p3)) (s4.extBut _ _ (fun z => hc (by rw [z]; exact p1)) (s3.extBut _ _ (fun z => hc (by rw [z]; exact p3)) (s2.extBut _ _ (fun z => hc (by rw [z]; exact p0)) (s1.extBut _ _ (fun z => hc (by rw [z]; exact p4)) e))))
  have ti5 : IsPair q5 (n + 2) (.ref n) (.ref (n + 1)) := s5.extBut _ _ n32.symm (s4.extBut _ _ n21 (s3.extBut _ _ n32.symm (s2.extBut _ _ n2n (s1.extBut _ _ n2z hTI))))
  have g15 : k1.it q5 n a1 (i + 1) := Knd.it_at (k := k1) f2 fun o e => s5.extBut _ _ n3n.symm (s4.extBut _ _ n1n.symm (s3.extBut _ _ n3n.symm e))
  have g25 : k2.it q5 (n + 1) a2 (i + 1) := Knd.it_at (k := k2) f4 fun o e => s5.extBut _ _ n31.symm e
  have zlt : n + 4 < q5.objs.size := Heap.lt_size hz5
  show wpAny _ _ (Builtin.SmallTypes.ownedTupleHandOut (.ref (n + 4)) (.ref q5.objs.size) >>= _) _ _ _
  refine wpAny_bind ?_; unfold Builtin.SmallTypes.ownedTupleHandOut
  have hz6 : IsZip (q5.push { cls := .type "tuple", data := .seq #[x, y] }) (n + 4) (n + 2) (n + 3) .ellipsis := Heap.get?_push_of_some _ hz5
  refine wpAny_bind (wpAny_setField_rec hz6 (by simp) fun q7 hz7 s7 => ?_)
  replace hz7 : IsZip q7 (n + 4) (n + 2) (n + 3) (rawInt q5.objs.size) := hz7
  refine wpAny_setField_rec hz7 (by simp) fun q8 hz8 s8 => ?_
  replace hz8 : IsZip q8 (n + 4) (n + 2) (n + 3) (rawInt q5.objs.size) := hz8
  have up : ∀ c o, c ≠ n + 4 → q5.get? c = some o → q8.get? c = some o := fun c o hc e => s8.extBut _ _ hc (s7.extBut _ _ hc (Heap.get?_push_of_some _ e))
  have hT8 : IsPair q8 q5.objs.size x y := s8.extBut _ _ (Nat.ne_of_gt zlt) (s7.extBut _ _ (Nat.ne_of_gt zlt) (Heap.get?_push_size _ rfl))
  rw [hsz] at hz8 hT8
  refine wpAny_pure ⟨_, rfl, wpAny_pure ?_⟩
  show Q (some (.ref q5.objs.size)) _; rw [hsz]
  exact hQ q8 ⟨hz8, up _ _ n2z ti5, ⟨_, _, up _ _ n3z hT5⟩, Knd.it_at (k := k1) g15 fun o e => up _ o nz e, Knd.it_at (k := k2) g25 fun o e => up _ o n1z e⟩ hT8 fun c o hc e => up c o (fun z => hc (by rw [z]; exact p4)) (keep5 c o hc e)
theorem zip_end {k1 k2 : Knd} {n a1 a2 : Addr} {i : Nat} {xs ys : Array Value} {Q : Option Value → Shared → Prop} (hh : A.handled = none) (Z : ZAt s.heap k1 k2 n a1 a2 i .none) (d1 : a1 ∉ zfp n) (d2 : a2 ∉ zfp n) (h1 : k1.seq s.heap a1 xs) (h2 : k2.seq s.heap a2 ys) (hend : xs[i]? = none ∨ ys[i]? = none)
    (hQ : ∀ h', (∀ c o, c ∉ zfp n → s.heap.get? c = some o → h'.get? c = some o) → Q none { s with heap := h' }) : wpAny (model prog w) A (pyNext (.ref (n + 4))) Q E s := by
  obtain ⟨hz, hTI, ⟨a, b, hTO⟩, g1, g2⟩ := Z
  have nz : n ≠ n + 4 := Nat.ne_of_lt (Nat.lt_add_of_pos_right (by decide))
  have n1z : n + 1 ≠ n + 4 := by intro e; have := Nat.add_left_cancel e; exact absurd this (by decide)
  have n3z : n + 3 ≠ n + 4 := by intro e; have := Nat.add_left_cancel e; exact absurd this (by decide)
  have n3n : n + 3 ≠ n := Nat.ne_of_gt (Nat.lt_add_of_pos_right (by decide))
  have n31 : n + 3 ≠ n + 1 := by intro e; have := Nat.add_left_cancel e; exact absurd this (by decide)
  have n1n : n + 1 ≠ n := Nat.ne_of_gt (Nat.lt_add_of_pos_right (by decide))
  have m1 : ∀ c, c ∈ zfp n → a1 ≠ c := fun c hc e => d1 (by rw [e]; exact hc)
  have m2 : ∀ c, c ∈ zfp n → a2 ≠ c := fun c hc e => d2 (by rw [e]; exact hc)
  have p4 : n + 4 ∈ zfp n := .head _
  have p3 : n + 3 ∈ zfp n := .tail _ (.tail _ (.head _))
  have p0 : n ∈ zfp n := .tail _ (.tail _ (.tail _ (.head _)))
  have p1 : n + 1 ∈ zfp n := .tail _ (.tail _ (.tail _ (.tail _ (.head _))))
  have ty : s.TypeIs (.ref (n + 4)) "zip" := ⟨_, hz, rfl⟩
  unfold pyNext
  refine wpAny_bind (wpAny_attempt (wpAny_callSpecial?_slot (name := Str.ofString "__next__") ty F.slot_zip_next (wpAny_call_entry F.slot_zip_next ty F.entry_zip_next ?_ (F.args_zip_next_1 _))))
  have fin : ∀ h' e, (∀ c o, c ∉ zfp n → s.heap.get? c = some o → h'.get? c = some o) → (∃ o, h'.get? e = some o ∧ o.cls = .type "StopIteration") →
      wpAny (model prog w) A (isInstance (.ref e) (.type "StopIteration") >>= fun b => if b = true then pure none else throw (.ref e)) Q E { s with heap := h' } := fun h' e hk ⟨o, ho, hc⟩ =>
    wpAny_bind (wpAny_isInstance (T := "StopIteration") (b := true) ⟨o, ho, hc⟩ isSubtype_stop (wpAny_pure (hQ _ hk)))
  show wpAny _ _ (field (.ref (n + 4)) 2 >>= _) _ _ _; refine wpAny_bind (wpAny_field hz rfl (x := .bool false) rfl ?_)
  show wpAny _ _ (field (.ref (n + 4)) 3 >>= _) _ _ _; refine wpAny_bind (wpAny_field hz rfl (x := .ref (n + 2)) rfl ?_)
  refine wpAny_bind (wpAny_seqItems hTI rfl ?_); show wpAny _ _ (Builtin.SmallTypes.ownedTupleIsFree (.ref (n + 4)) >>= _) _ _ _
  refine wpAny_bind ?_; unfold Builtin.SmallTypes.ownedTupleIsFree; refine wpAny_bind (wpAny_field hz rfl (x := .none) rfl (wpAny_pure ?_)); simp only [if_true]
  refine wpAny_bind (wpAny_rule ?_); refine wpAny_bind (wpAny_field hz rfl (x := .ref (n + 3)) rfl ?_)
  refine wpAny_bind (wpAny_setField_rec hz (by simp) fun q1 hz1 s1 => ?_)
  replace hz1 : IsZip q1 (n + 4) (n + 2) (n + 3) .ellipsis := hz1
  refine wpAny_bind ?_; simp only [List.zipIdx_cons, List.zipIdx_nil, List.forIn_cons, List.forIn_nil]
  refine wpAny_bind (wpAny_bind (wpAny_onRaise ?_)); show wpAny _ _ (Builtin.SmallTypes.nextOf (.ref n) >>= _) _ _ _
  have G1 := Knd.it_at (k := k1) g1 fun o e => s1.extBut _ _ nz e
  have S1 := Knd.seq_at (k := k1) h1 fun o e => s1.extBut _ _ (m1 _ p4) e
  cases hx : xs[i]? with
  | none =>
    refine wpAny_bind (Knd.done hh G1 S1 hx fun q2 e s2 he => ?_)
    obtain ⟨oe, hoe, hce⟩ := he
    have hz2 : IsZip q2 (n + 4) (n + 2) (n + 3) .ellipsis := s2 _ _ nz.symm hz1
    have hez : e ≠ n + 4 := fun z => by subst z; rw [hz2] at hoe; cases hoe; simp at hce
    refine wpAny_setField_rec hz2 (by simp) fun q3 _ s3 => fin q3 e (fun c o hc z => s3.extBut _ _ (fun z => hc (by rw [z]; exact p4)) (s2 _ _ (fun z => hc (by rw [z]; exact p0)) (s1.extBut _ _ (fun z => hc (by rw [z]; exact p4)) z))) ⟨oe, s3.extBut _ _ hez hoe, hce⟩
  | some x =>
    have hy : ys[i]? = none := by rcases hend with h | h; rw [hx] at h; cases h; exact h
    refine wpAny_bind (Knd.next G1 S1 hx fun q2 f2 s2 => wpAny_pure ?_)
    have hT2 : IsPair q2 (n + 3) a b := s2.extBut _ _ n3n (s1.extBut _ _ n3z hTO)
    refine wpAny_bind (wpAny_seqItems hT2 rfl ?_); refine wpAny_bind (wpAny_updateSeq_pair hT2 fun q3 hT3 s3 => ?_)
    refine wpAny_bind (wpAny_letGo (wpAny_pure ?_))
    refine wpAny_bind (wpAny_bind (wpAny_onRaise ?_)); show wpAny _ _ (Builtin.SmallTypes.nextOf (.ref (n + 1)) >>= _) _ _ _
    refine wpAny_bind (Knd.done hh (Knd.it_at (k := k2) g2 fun o e => s3.extBut _ _ n31.symm (s2.extBut _ _ n1n (s1.extBut _ _ n1z e))) (Knd.seq_at (k := k2) h2 fun o e => s3.extBut _ _ (m2 _ p3) (s2.extBut _ _ (m2 _ p0) (s1.extBut _ _ (m2 _ p4) e))) hy fun q4 e s4 he => ?_)
    obtain ⟨oe, hoe, hce⟩ := he
    have hz4 : IsZip q4 (n + 4) (n + 2) (n + 3) .ellipsis := s4 _ _ n1z.symm (s3.extBut _ _ n3z.symm (s2.extBut _ _ nz.symm hz1))
    have hez : e ≠ n + 4 := fun z => by subst z; rw [hz4] at hoe; cases hoe; simp at hce
    refine wpAny_setField_rec hz4 (by simp) fun q5 _ s5 => fin q5 e (fun c o hc z => s5.extBut _ _ (fun z => hc (by rw [z]; exact p4)) (s4 _ _ (fun z => hc (by rw [z]; exact p1)) (s3.extBut _ _ (fun z => hc (by rw [z]; exact p3)) (s2.extBut _ _ (fun z => hc (by rw [z]; exact p0)) (s1.extBut _ _ (fun z => hc (by rw [z]; exact p4)) z))))) ⟨oe, s5.extBut _ _ hez hoe, hce⟩
end
noncomputable abbrev zh1 (h : Heap) (k1 : Knd) (a1 : Addr) : Heap := h.push { cls := .type k1.nm, data := .fields #[.ref a1, .int 0 0] }
noncomputable abbrev zh2 (h : Heap) (k1 k2 : Knd) (a1 a2 : Addr) : Heap := (zh1 h k1 a1).push { cls := .type k2.nm, data := .fields #[.ref a2, .int 0 0] }
noncomputable abbrev zh3 (h : Heap) (k1 k2 : Knd) (a1 a2 : Addr) : Heap := (zh2 h k1 k2 a1 a2).push { cls := .type "tuple", data := .seq #[.ref h.objs.size, .ref (zh1 h k1 a1).objs.size] }
noncomputable abbrev zh4 (h : Heap) (k1 k2 : Knd) (a1 a2 : Addr) : Heap := (zh3 h k1 k2 a1 a2).push { cls := .type "tuple", data := .seq #[.none, .none] }
noncomputable abbrev zh5 (h : Heap) (k1 k2 : Knd) (a1 a2 : Addr) : Heap := (zh4 h k1 k2 a1 a2).push { cls := .type "zip", data := .fields #[.none, .bool false, .bool false, .ref (zh2 h k1 k2 a1 a2).objs.size, .ref (zh3 h k1 k2 a1 a2).objs.size] }
theorem zip_made (k1 k2 : Knd) (a1 a2 : Addr) (xs ys : Array Value) :
    Meets (Builtin.«zip.__new__» ⟨[.type "zip", .ref a1, .ref a2], []⟩) (fun _ R s => k1.seq s.heap a1 xs ∧ k2.seq s.heap a2 ys ∧
      R (.ok (.ret (.ref (zh4 s.heap k1 k2 a1 a2).objs.size))) { s with heap := zh5 s.heap k1 k2 a1 a2 }) :=
  .of_wp fun prog w A R s h => by
    obtain ⟨hp, g, d, tk, os⟩ := s; obtain ⟨e1, e2, h⟩ := h; have sub := sub_zip
    cases k1 <;> cases k2
    · have L1 : Heap.IsList (Shared.heap ⟨hp, g, d, tk, os⟩) a1 xs := e1
      have L2 : Heap.IsList (Shared.heap ⟨hp.push { cls := .type "list_iterator", data := .fields #[.ref a1, .int 0 0] }, g, d, tk, os⟩) a2 ys := Heap.IsList.push e2 _
      wp_walk using wpAny_pyIter_list L1, wpAny_pyIter_list L2
      exact ⟨_, rfl, h⟩
    · have L1 : Heap.IsList (Shared.heap ⟨hp, g, d, tk, os⟩) a1 xs := e1
      have L2 : Heap.IsTuple (Shared.heap ⟨hp.push { cls := .type "list_iterator", data := .fields #[.ref a1, .int 0 0] }, g, d, tk, os⟩) a2 ys := Heap.IsTuple.push e2 _
      wp_walk using wpAny_pyIter_list L1, wpAny_pyIter_tuple L2
      exact ⟨_, rfl, h⟩
    · have L1 : Heap.IsTuple (Shared.heap ⟨hp, g, d, tk, os⟩) a1 xs := e1
      have L2 : Heap.IsList (Shared.heap ⟨hp.push { cls := .type "tuple_iterator", data := .fields #[.ref a1, .int 0 0] }, g, d, tk, os⟩) a2 ys := Heap.IsList.push e2 _
      wp_walk using wpAny_pyIter_tuple L1, wpAny_pyIter_list L2
      exact ⟨_, rfl, h⟩
    · have L1 : Heap.IsTuple (Shared.heap ⟨hp, g, d, tk, os⟩) a1 xs := e1
      have L2 : Heap.IsTuple (Shared.heap ⟨hp.push { cls := .type "tuple_iterator", data := .fields #[.ref a1, .int 0 0] }, g, d, tk, os⟩) a2 ys := Heap.IsTuple.push e2 _
      wp_walk using wpAny_pyIter_tuple L1, wpAny_pyIter_tuple L2
      exact ⟨_, rfl, h⟩
theorem call_zip {prog : Program} {w : World} {A : Around} {E : Value → Shared → Prop} {s : Shared} {k1 k2 : Knd} {a1 a2 : Addr} {xs ys : Array Value} {Q : Value → Shared → Prop} (h1 : k1.seq s.heap a1 xs) (h2 : k2.seq s.heap a2 ys)
    (h : ∀ h', ZAt h' k1 k2 s.heap.objs.size a1 a2 0 .none → (∀ c o, s.heap.get? c = some o → h'.get? c = some o) → Q (.ref (s.heap.objs.size + 4)) { s with heap := h' }) :
    wpAny (model prog w) A (call (.type "zip") [.ref a1, .ref a2]) Q E s := by
  refine callType_new F.called_zip (by decide) (F.typeCall_zip_2 _ _) (F.newCall_zip_2 _ _) (fun obj => F.args_object_init_3 obj _ _) F.entry_zip_new (zip_made k1 k2 a1 a2 xs ys) ⟨h1, h2, ?_⟩
  have z1 : (zh1 s.heap k1 a1).objs.size = s.heap.objs.size + 1 := Heap.size_push ..
  have z2 : (zh2 s.heap k1 k2 a1 a2).objs.size = s.heap.objs.size + 2 := by rw [Heap.size_push, z1]
  have z3 : (zh3 s.heap k1 k2 a1 a2).objs.size = s.heap.objs.size + 3 := by rw [Heap.size_push, z2]
  have z4 : (zh4 s.heap k1 k2 a1 a2).objs.size = s.heap.objs.size + 4 := by rw [Heap.size_push, z3]
  have g5 : (zh5 s.heap k1 k2 a1 a2).get? (zh4 s.heap k1 k2 a1 a2).objs.size = some _ := Heap.get?_push_size _ rfl
  have g4 : (zh5 s.heap k1 k2 a1 a2).get? (zh3 s.heap k1 k2 a1 a2).objs.size = some _ := Heap.get?_push_of_some _ (Heap.get?_push_size _ rfl)
  have g3 : (zh5 s.heap k1 k2 a1 a2).get? (zh2 s.heap k1 k2 a1 a2).objs.size = some _ := Heap.get?_push_of_some _ (Heap.get?_push_of_some _ (Heap.get?_push_size _ rfl))
  have g2 : (zh5 s.heap k1 k2 a1 a2).get? (zh1 s.heap k1 a1).objs.size = some _ := Heap.get?_push_of_some _ (Heap.get?_push_of_some _ (Heap.get?_push_of_some _ (Heap.get?_push_size _ rfl)))
  have g1 : (zh5 s.heap k1 k2 a1 a2).get? s.heap.objs.size = some _ := Heap.get?_push_of_some _ (Heap.get?_push_of_some _ (Heap.get?_push_of_some _ (Heap.get?_push_of_some _ (Heap.get?_push_size _ rfl))))
  show _ ∧ _
  rw [z2, z3, z4] at g5
  rw [z1, z2] at g3
  rw [z3] at g4; rw [z1] at g2; rw [z4]
  refine ⟨⟨_, g5, rfl⟩, h _ ⟨g5, g3, ⟨_, _, g4⟩, ?_, ?_⟩ fun c o x => Heap.get?_push_of_some _ (Heap.get?_push_of_some _ (Heap.get?_push_of_some _ (Heap.get?_push_of_some _ (Heap.get?_push_of_some _ x))))⟩
  · cases k1 <;> exact ⟨_, g1, rfl, rfl⟩
  · cases k2 <;> exact ⟨_, g2, rfl, rfl⟩
end L2
set_option Elab.async false
set_option linter.all false
set_option maxRecDepth 100000
set_option maxHeartbeats 2000000
namespace L2
open PySem PySem.Spec PyProof.Rows
section
variable {X : Cx} {pins : List (Addr × Obj)} {σ : St} {H : Hp} {s : Shared}
theorem fp_ne {k : Knd} {a b : Addr} {xs : List V} (I : Inv X pins σ H s) (f : FpOk X pins H b) (h : k.sq X.K H a xs) : a ≠ b := by
  rintro rfl
  have kb : ∀ o, X.K.lookup a = some o → False := fun o e => by
    have e' := I.ok.mod.kin a o e
    rcases f.2.2.2.1 with h | h
    · exact I.ok.noex a o e' h
    · exact absurd (Nat.lt_of_lt_of_le (Heap.lt_size e') (Nat.le_trans I.ok.bsz h)) (Nat.lt_irrefl _)
  cases k
  · rcases h with (h | ⟨o, h⟩) | ⟨o, its, n, hk, r⟩
    · have h' := f.1; rw [h] at h'; cases h'
    · have h' := f.1; rw [h] at h'; cases h'
    · exact kb o hk
  · rcases h with (h | ⟨o, h⟩) | ⟨o, its, n, hk, r⟩
    · have h' := f.1; rw [h] at h'; cases h'
    · have h' := f.1; rw [h] at h'; cases h'
    · exact kb o hk
theorem Inv.knd {k : Knd} {a : Addr} {xs : List V} (I : Inv X pins σ H s) (h : k.sq X.K H a xs) : ∃ its : List Value, Vals xs its ∧ k.seq s.heap a its.toArray := by
  cases k
  · obtain ⟨its, r, p, _⟩ := I.list h
    exact ⟨its, r, p.isList⟩
  · obtain ⟨its, r, p, _⟩ := I.tuple h
    exact ⟨its, r, p⟩
theorem Inv.knd_inj {k : Knd} {a : Addr} {xs ys : List V} (I : Inv X pins σ H s) (h : k.sq X.K H a xs) (h' : k.sq X.K H a ys) : xs = ys := by
  cases k
  · exact I.list_inj h h'
  · exact I.tuple_inj h h'
end
noncomputable def Itz (K : PySem.W.Frag) (k1 k2 : Knd) (a1 a2 : Addr) : It :=
  ⟨fun i H => ∃ xs ys x y, k1.sq K H a1 xs ∧ k2.sq K H a2 ys ∧ xs[i]? = some x ∧ ys[i]? = some y,
   fun i H x H' => ∃ p u v, x = .ref p ∧ H p = none ∧ H' = upd H p (.tup [u, v]) ∧ (∀ xs, k1.sq K H a1 xs → xs[i]? = some u) ∧ ∀ ys, k2.sq K H a2 ys → ys[i]? = some v,
   fun i H => ∃ xs ys, k1.sq K H a1 xs ∧ k2.sq K H a2 ys ∧ (xs.length ≤ i ∨ ys.length ≤ i)⟩
theorem turn_zip {P : Program} {w : World} {K : PySem.W.Frag} {els : List Expr} {x1 : Nat} {tpos : Pos} (k1 k2 : Knd) (n a1 a2 : Addr) :
    Turn P w K (.Tuple els x1 tpos) (Itz K k1 k2 a1 a2) (zfp n) (n + 4) (fun i h => ZAt h k1 k2 n a1 a2 i .none) where
  mem := .head _
  obj := fun i h Z b hb => by
    obtain ⟨hz, hTI, ⟨a, b', hTO⟩, g1, g2⟩ := Z
    obtain ⟨o1, e1, _, d1⟩ := Knd.it_obj (k := k1) g1
    obtain ⟨o2, e2, _, d2⟩ := Knd.it_obj (k := k2) g2
    unfold zfp at hb
    simp only [List.mem_cons, List.not_mem_nil, or_false] at hb
    rcases hb with rfl | rfl | rfl | rfl | rfl
    · exact ⟨_, hz, fun v z => by cases z⟩
    · exact ⟨_, hTI, fun v z => by cases z⟩
    · exact ⟨_, hTO, fun v z => by cases z⟩
    · exact ⟨_, e1, fun v z => by rw [d1] at z; cases z⟩
    · exact ⟨_, e2, fun v z => by rw [d2] at z; cases z⟩
  keep := fun i h h' Z k => by
    obtain ⟨hz, hTI, ⟨a, b', hTO⟩, g1, g2⟩ := Z
    have p0 : n ∈ zfp n := .tail _ (.tail _ (.tail _ (.head _)))
    have p1 : n + 1 ∈ zfp n := .tail _ (.tail _ (.tail _ (.tail _ (.head _))))
    exact ⟨k _ (.head _) _ hz, k _ (.tail _ (.head _)) _ hTI, ⟨a, b', k _ (.tail _ (.tail _ (.head _))) _ hTO⟩, Knd.it_at (k := k1) g1 fun o e => k _ p0 o e, Knd.it_at (k := k2) g2 fun o e => k _ p1 o e⟩
  item := by
    intro X hP hw hK hc i pins s σ H E I hf Z hg
    subst hP hw hK
    obtain ⟨xs, ys, x, y, q1, q2, hx, hy⟩ := hg
    obtain ⟨its, r1, e1⟩ := I.knd q1
    obtain ⟨jts, r2, e2⟩ := I.knd q2
    obtain ⟨u, hu, ru⟩ := r1.get hx
    obtain ⟨v, hv, rv⟩ := r2.get hy
    have fl : ∀ b ∈ zfp n, b < s.heap.objs.size := fun b hb => by
      obtain ⟨hz, hTI, ⟨a, b', hTO⟩, g1, g2⟩ := id Z
      obtain ⟨o1, e1, _⟩ := Knd.it_obj (k := k1) g1
      obtain ⟨o2, e2, _⟩ := Knd.it_obj (k := k2) g2
      unfold zfp at hb
      simp only [List.mem_cons, List.not_mem_nil, or_false] at hb
      rcases hb with rfl | rfl | rfl | rfl | rfl
      · exact Heap.lt_size hz
      · exact Heap.lt_size hTI
      · exact Heap.lt_size hTO
      · exact Heap.lt_size e1
      · exact Heap.lt_size e2
    refine zip_item Z (fun hb => fp_ne I (hf _ hb) q1 rfl) (fun hb => fp_ne I (hf _ hb) q2 rfl) e1 e2 (x := u) (y := v) (by simpa using hu) (by simpa using hv) fun h' Z' hT hk => ?_
    refine ⟨.ref s.heap.objs.size, rfl, wpAny_letOwnedTupleGo_zip (s := { s with heap := h' }) Z'.z fun h'' z'' sb => ?_⟩
    have I1 : Inv X pins σ (upd H s.heap.objs.size (.tup [x, y])) { s with heap := s.heap.push { cls := .type "tuple", data := .seq #[u, v] }, toks := s.toks } :=
      I.laid (fun b o e => Heap.get?_push_of_some _ e) (Nat.le_refl _) ⟨by show 2 ≤ sizeLine; decide, [u, v], .cons ru (.cons rv .nil), ⟨_, Heap.get?_push_size _ rfl, rfl, _, rfl⟩⟩
    have none' : ∀ b ∈ zfp n, upd H s.heap.objs.size (.tup [x, y]) b = none := fun b hb => by
      rw [upd_ne (Nat.ne_of_lt (fl b hb))]; exact (hf b hb).1
    have I2 : Inv X pins σ (upd H s.heap.objs.size (.tup [x, y])) { s with heap := h'' } := Inv.turnedL (s := { s with heap := s.heap.push { cls := .type "tuple", data := .seq #[u, v] }, toks := s.toks }) (fp := zfp n) (t' := s.toks) I1 (fun b o hb e => by
      have hb4 : b ≠ n + 4 := fun z => hb (by rw [z]; exact .head _)
      refine sb.extBut _ _ hb4 ?_
      rcases Heap.get?_push_cases e with ⟨z, z2⟩ | e
      · rw [z, z2]; exact hT
      · exact hk b o hb e) fun b hb => ⟨none' b hb, (hf b hb).2⟩
    obtain ⟨_, zt, ⟨a, b', zo⟩, g1, g2⟩ := Z'
    have ne : ∀ k : Nat, k < 4 → n + k ≠ n + 4 := fun k hk e => absurd (Nat.add_left_cancel e) (Nat.ne_of_lt hk)
    exact ⟨.ref s.heap.objs.size, _, I2, rfl, ⟨_, x, y, rfl, I.fresh, rfl, fun zs hz => by rw [I.knd_inj hz q1]; exact hx, fun zs hz => by rw [I.knd_inj hz q2]; exact hy⟩,
      ⟨z'', sb.extBut _ _ (ne 2 (by decide)) zt, ⟨a, b', sb.extBut _ _ (ne 3 (by decide)) zo⟩, Knd.it_at (k := k1) g1 fun o e => sb.extBut _ _ (ne 0 (by decide)) e, Knd.it_at (k := k2) g2 fun o e => sb.extBut _ _ (ne 1 (by decide)) e⟩, none'⟩
  done := by
    intro X hP hw hK hc i pins s σ H E I hf Z hg
    subst hP hw hK
    obtain ⟨xs, ys, q1, q2, hx⟩ := hg
    obtain ⟨its, r1, e1⟩ := I.knd q1
    obtain ⟨jts, r2, e2⟩ := I.knd q2
    have l1 := r1.length
    have l2 := r2.length
    refine zip_end (I.ok.hd hc) Z (fun hb => fp_ne I (hf _ hb) q1 rfl) (fun hb => fp_ne I (hf _ hb) q2 rfl) e1 e2 (hx.imp (fun h => by simp; omega) (fun h => by simp; omega)) fun h' hk => ⟨rfl, I.turnedL (t' := s.toks) hk hf⟩
  self := fun _ _ _ _ _ Z h => wpAny_pyIter_zip Z.z h
section
variable {X : Cx} {els : List Expr} {x1 : Nat} {tpos : Pos}
noncomputable def iZip (k1 k2 : Knd) (K : PySem.W.Frag) (ta : TA) : TI := fun σ H R => ta σ H fun vs H1 => ∃ a1 a2, vs = [.ref a1, .ref a2] ∧ (∃ xs, k1.sq K H1 a1 xs) ∧ (∃ ys, k2.sq K H1 a2 ys) ∧ R (Itz K k1 k2 a1 a2) H1
theorem pi_zip (k1 k2 : Knd) {a b : Expr} {ta : TA} {p pos : Pos} (hg : Gl X "zip") (hm : X.mg "zip" = none) (ha : PA X [a, b] ta) (hs : plainE a = true := by rfl) (hs2 : plainE b = true := by rfl) :
    PI X (.Tuple els x1 tpos) (.Call (.Name "zip" p) [a, b] [] pos) (iZip k1 k2 X.K ta) := by
  intro pins s σ H R I h
  refine wpAny_Call_Name_kw (ld_blt I hg hm PyProof.Rows.Boot.«zip» ?_)
  refine PyProof.Rows.callWith_type1 (thn (ha pos pins s σ H _ I h) fun us s1 h1 => ?_) (star_plain hs) (any_plain (by rw [List.all_cons, hs2]; rfl))
  obtain ⟨vs, H1, I1, r, a1, a2, rfl, ⟨xs, q1⟩, ⟨ys, q2⟩, q⟩ := h1
  obtain ⟨u, v, rfl, ru, rv⟩ := vals2 r
  cases ru; cases rv
  obtain ⟨its, r1, e1⟩ := I1.knd q1
  obtain ⟨jts, r2, e2⟩ := I1.knd q2
  refine call_zip e1 e2 fun h' Z hk => wpAny_pyIter_zip Z.z ?_
  refine ⟨s1.heap.objs.size + 4, zfp s1.heap.objs.size, _, _, H1, rfl, I1.kept (t' := s1.toks) hk, turn_zip k1 k2 _ a1 a2, Z, fun b hb => ?_, q⟩
  have hle : s1.heap.objs.size ≤ b := by
    unfold zfp at hb
    simp only [List.mem_cons, List.not_mem_nil, or_false] at hb
    rcases hb with rfl | rfl | rfl | rfl | rfl
    · exact Nat.le_add_right _ _
    · exact Nat.le_add_right _ _
    · exact Nat.le_add_right _ _
    · exact Nat.le_refl _
    · exact Nat.le_add_right _ _
  exact I1.fpOk hle (I1.hok.fresh hle)
end
end L2
set_option Elab.async false
set_option linter.all false
set_option maxRecDepth 100000
set_option maxHeartbeats 2000000
namespace L2
open PySem PySem.Spec PyProof.Rows
theorem Same.new {H : Hp} {p : Addr} {o : HO} (h : H p = none) : Same H (L2.upd H p o) := fun b u e => by
  rw [upd_ne (ne_of_none e h)]; exact e
theorem Same.upd {H H1 : Hp} {p : Addr} {o : HO} (s : Same H H1) (h : H p = none) : Same H (L2.upd H1 p o) := fun b u e => by
  rw [upd_ne (ne_of_none e h)]; exact s b u e
theorem Same.knd {k : Knd} {K : PySem.W.Frag} {H H' : Hp} {a : Addr} {xs : List V} (S : Same H H') (h : k.sq K H a xs) : k.sq K H' a xs := by
  cases k <;> rcases h with (h | ⟨o, h⟩) | h <;> first | exact .inl (.inl (S _ _ h)) | exact .inl (.inr ⟨o, S _ _ h⟩) | exact .inr h
section
variable {X : Cx}
theorem CompOk.caps {scope sc : Scope} {lv : Nat} {caps : List Nat} {N' : List Str} (kind : scope.kind = .function) (h : ∀ y ∈ scope.names, y.2 ≠ .cell) (hf : ∀ y ∈ scope.names, y.2 = .free → sc.names.lookup y.1 = some .cell ∨ sc.names.lookup y.1 = some .free)
    (loc : ∀ y ∈ scope.names, y.2 = .local → scope.names.lookup y.1 = some .local) (e : X.env.scope = sc) (len : N'.length = lv + caps.length)
    (cap : ∀ (p : Nat) (j : Nat), caps[p]? = some j → ∃ x, N'[lv + p]? = some x ∧ X.N[j]? = some x ∧ scope.names.lookup x = some .free) : CompOk X scope lv caps N' :=
  ⟨kind, h, fun y hy hz => by have := hf y hy hz; rw [← e] at this; exact this, loc, len, cap⟩
theorem pg_tupK {es : List Expr} {k : Nat} {t : TGs} {n : Nat} {pos : Pos} (K : PySem.W.Frag) (hc : X.calm = true) (h : PGs X es t) (hK : X.K = K := by rfl)
    (hn : (assignEach es X.env).length = n := by rfl) (hst : (assignEach es X.env).findIdx? (·.1) = none := by rfl) : PG X (.Tuple es k pos) (gTup K n t) := hK ▸ pg_tup hc h hn hst
end
section
variable {K : PySem.W.Frag} {g : TG} {te : TE} {σ0 : St} {H1 : Hp} {Q : VK}
theorem comp_each {J : It} (n : Nat) (hl : n < sizeLine) (f : Nat → V) (go : ∀ i H', i < n → Same H1 H' → J.go i H') (stop : ∀ H', Same H1 H' → J.stop n H')
    (step : ∀ i x (H' H'' : Hp) (Q' : VK), i < n → Same H1 H' → J.yld i H' x H'' → (∀ H2, Same H' H2 → Q' (f i) H2) → g x σ0 H'' fun σ2 H2 => te σ2 H2 Q')
    (fin : ∀ D H', H1 D = none → Same H1 H' → H' D = some (.lst ((List.range n).map f)) → Q (.ref D) H') : compW J g te σ0 Q H1 := by
  intro D hD
  refine ⟨fun i m ys H' => i ≤ n ∧ m = n - i ∧ ys = (List.range i).map f ∧ Same H1 H' ∧ H' D = some (.lst ys), ⟨_, Nat.zero_le _, rfl, rfl, Same.new hD, upd_same⟩, ?_⟩
  rintro i m ys H' ⟨hi, rfl, rfl, S, e⟩
  refine ⟨e, by rw [List.length_map, List.length_range]; omega, ?_⟩
  by_cases hlt : i < n
  · refine .inr ⟨go i H' hlt S, fun x H'' hy => step i x H' H'' _ hlt S hy fun H2 S2 => ⟨S2 _ _ e, n - (i + 1), by omega, hlt, rfl, ?_, (S.trans S2).upd hD, upd_same⟩⟩
    rw [List.range_succ, List.map_append]; rfl
  · have ei : i = n := by omega
    subst ei
    exact .inl ⟨stop H' S, fin D H' hD S e⟩
theorem comp_seq {k : Knd} {J : It} {a : Addr} {xs : List V} (hJ : J = match k with | .L => Itl K a | .T => Itt K a) (hq : k.sq K H1 a xs) (hl : xs.length < sizeLine) (f : V → V)
    (step : ∀ x ∈ xs, ∀ (H' : Hp) (Q' : VK), Same H1 H' → (∀ H2, Same H' H2 → Q' (f x) H2) → g x σ0 H' fun σ2 H2 => te σ2 H2 Q')
    (fin : ∀ D H', H1 D = none → Same H1 H' → H' D = some (.lst (xs.map f)) → Q (.ref D) H') : compW J g te σ0 Q H1 := by
  have hm : (List.range xs.length).map (fun i => f (xs.getD i .non)) = xs.map f := by
    apply List.ext_getElem?
    intro i
    simp only [List.getElem?_map, List.getElem?_range, List.getD_eq_getElem?_getD]
    by_cases h : i < xs.length
    · rw [List.getElem?_eq_getElem h, List.getElem?_range h]; simp [h]
    · rw [List.getElem?_eq_none (show (List.range xs.length).length ≤ i by rw [List.length_range]; omega), List.getElem?_eq_none (show xs.length ≤ i by omega)]; rfl
  have at' : ∀ {i : Nat} (h : i < xs.length), xs[i]? = some (xs.getD i .non) := fun {i} h => by rw [List.getD_eq_getElem?_getD, List.getElem?_eq_getElem h]; rfl
  subst hJ
  cases k
  · refine comp_each xs.length hl (fun i => f (xs.getD i .non)) (fun i H' h S => ⟨xs, _, S.knd (k := .L) hq, at' h⟩) (fun H' S => ⟨xs, S.knd (k := .L) hq, Nat.le_refl _⟩) (fun i x H' H'' Q' h S hy q => ?_) (fun D H' hD S e => fin D H' hD S (by rw [← hm]; exact e))
    obtain ⟨rfl, hx⟩ := hy
    have hx := hx xs (S.knd (k := .L) hq)
    have e : xs.getD i .non = x := by rw [List.getD_eq_getElem?_getD, hx]; rfl
    rw [e] at q
    exact step x (List.mem_of_getElem? hx) _ Q' S q
  · refine comp_each xs.length hl (fun i => f (xs.getD i .non)) (fun i H' h S => ⟨xs, _, S.knd (k := .T) hq, at' h⟩) (fun H' S => ⟨xs, S.knd (k := .T) hq, Nat.le_refl _⟩) (fun i x H' H'' Q' h S hy q => ?_) (fun D H' hD S e => fin D H' hD S (by rw [← hm]; exact e))
    obtain ⟨rfl, hx⟩ := hy
    have hx := hx xs (S.knd (k := .T) hq)
    have e : xs.getD i .non = x := by rw [List.getD_eq_getElem?_getD, hx]; rfl
    rw [e] at q
    exact step x (List.mem_of_getElem? hx) _ Q' S q
theorem comp_L {a : Addr} {xs : List V} (hq : SqL K H1 a xs) (hl : xs.length < sizeLine) (f : V → V)
    (step : ∀ x ∈ xs, ∀ (H' : Hp) (Q' : VK), Same H1 H' → (∀ H2, Same H' H2 → Q' (f x) H2) → g x σ0 H' fun σ2 H2 => te σ2 H2 Q')
    (fin : ∀ D H', H1 D = none → Same H1 H' → H' D = some (.lst (xs.map f)) → Q (.ref D) H') : compW (Itl K a) g te σ0 Q H1 := comp_seq (k := .L) rfl hq hl f step fin
theorem comp_T {a : Addr} {xs : List V} (hq : SqT K H1 a xs) (hl : xs.length < sizeLine) (f : V → V)
    (step : ∀ x ∈ xs, ∀ (H' : Hp) (Q' : VK), Same H1 H' → (∀ H2, Same H' H2 → Q' (f x) H2) → g x σ0 H' fun σ2 H2 => te σ2 H2 Q')
    (fin : ∀ D H', H1 D = none → Same H1 H' → H' D = some (.lst (xs.map f)) → Q (.ref D) H') : compW (Itt K a) g te σ0 Q H1 := comp_seq (k := .T) rfl hq hl f step fin
end
end L2
set_option Elab.async false
set_option linter.all false
set_option maxRecDepth 100000
set_option maxHeartbeats 2000000
namespace L2
open PySem PySem.Spec PyProof.Rows
theorem for_zip {K : PySem.W.Frag} {k1 k2 : Knd} {a1 a2 : Addr} {xs ys : List V} {g : TG} {tb : TS} {D : Ends} {σ : St} {H : Hp} (Pv : Nat → St → Hp → Prop) (h0 : Pv 0 σ H) (hl : ∀ i σ H, Pv i σ H → k1.sq K H a1 xs ∧ k2.sq K H a2 ys)
    (hs : ∀ i x y p σ H, xs[i]? = some x → ys[i]? = some y → Pv i σ H → H p = none → g (.ref p) σ (upd H p (.tup [x, y])) fun σ2 H2 => tb { D with nx := Pv (i + 1), ct := Pv (i + 1), bk := D.nx } σ2 H2)
    (hd : ∀ σ H, Pv (min xs.length ys.length) σ H → D.nx σ H) :
    ∃ W : Nat → Nat → St → Hp → Prop, (∃ m, W 0 m σ H) ∧ ∀ i m σ H, W i m σ H →
      ((Itz K k1 k2 a1 a2).stop i H ∧ D.nx σ H) ∨ ((Itz K k1 k2 a1 a2).go i H ∧ ∃ N : St → Hp → Prop, (∀ σ' H', N σ' H' → ∃ m', m' < m ∧ W (i + 1) m' σ' H') ∧ ∀ x H', (Itz K k1 k2 a1 a2).yld i H x H' → g x σ H' fun σ2 H2 => tb { D with nx := N, ct := N, bk := D.nx } σ2 H2) := by
  refine ⟨fun i m σ H => m = min xs.length ys.length - i ∧ i ≤ min xs.length ys.length ∧ Pv i σ H, ⟨_, rfl, Nat.zero_le _, h0⟩, ?_⟩
  rintro i m σ H ⟨rfl, hi, p⟩
  obtain ⟨q1, q2⟩ := hl i σ H p
  by_cases hlt : i < min xs.length ys.length
  · have l1 : i < xs.length := Nat.lt_of_lt_of_le hlt (Nat.min_le_left ..)
    have l2 : i < ys.length := Nat.lt_of_lt_of_le hlt (Nat.min_le_right ..)
    refine .inr ⟨⟨xs, ys, _, _, q1, q2, List.getElem?_eq_getElem l1, List.getElem?_eq_getElem l2⟩, Pv (i + 1), fun σ' H' n => ⟨_, by omega, rfl, hlt, n⟩, fun x H' hy => ?_⟩
    obtain ⟨a, u, v, rfl, ha, rfl, hu, hv⟩ := hy
    exact hs i u v a σ H (hu xs q1) (hv ys q2) p ha
  · have e : i = min xs.length ys.length := by omega
    subst e
    refine .inl ⟨⟨xs, ys, q1, q2, ?_⟩, hd σ H p⟩
    rcases Nat.le_total xs.length ys.length with h | h
    · exact .inl (by rw [Nat.min_eq_left h]; exact Nat.le_refl _)
    · exact .inr (by rw [Nat.min_eq_right h]; exact Nat.le_refl _)
section
variable {X : Cx}
end
end L2
set_option Elab.async false
set_option linter.all false
set_option maxRecDepth 100000
set_option maxHeartbeats 2000000
namespace L2
open PySem PySem.Spec PyProof.Rows
noncomputable def Ite (K : PySem.W.Frag) (a : Addr) : It :=
  ⟨fun i H => ∃ xs x, SqL K H a xs ∧ xs[i]? = some x,
   fun i H x H' => ∃ p u, x = .ref p ∧ H p = none ∧ H' = upd H p (.tup [.int (i : Int), u]) ∧ ∀ xs, SqL K H a xs → xs[i]? = some u,
   fun i H => ∃ xs, SqL K H a xs ∧ xs.length ≤ i⟩
structure EAt (h : Heap) (n a : Addr) (i : Nat) : Prop where
  en : ∃ old, IsEnum h (n + 1) n (i : Int) old
  it : h.IsListIter n a i
noncomputable def efp (n : Addr) : List Addr := [n + 1, n]
theorem turn_enum {P : Program} {w : World} {K : PySem.W.Frag} {els : List Expr} {x1 : Nat} {tpos : Pos} (n a : Addr) :
    Turn P w K (.Tuple els x1 tpos) (Ite K a) (efp n) (n + 1) (fun i h => EAt h n a i) where
  mem := .head _
  obj := fun i h Z b hb => by
    obtain ⟨⟨old, he⟩, oi, hi, _, di⟩ := Z
    unfold efp at hb
    simp only [List.mem_cons, List.not_mem_nil, or_false] at hb
    rcases hb with rfl | rfl
    · exact ⟨_, he, fun v z => by cases z⟩
    · exact ⟨_, hi, fun v z => by rw [di] at z; cases z⟩
  keep := fun i h h' Z k => by
    obtain ⟨⟨old, he⟩, oi, hi, r⟩ := Z
    exact ⟨⟨old, k _ (.head _) _ he⟩, oi, k _ (.tail _ (.head _)) _ hi, r⟩
  item := by
    intro X hP hw hK hc i pins s σ H E I hf Z hg
    subst hP hw hK
    obtain ⟨xs, x, q1, hx⟩ := hg
    obtain ⟨its, r1, e1⟩ := I.knd (k := .L) q1
    obtain ⟨u, hu, ru⟩ := r1.get hx
    have fl : ∀ b ∈ efp n, b < s.heap.objs.size := fun b hb => by
      obtain ⟨⟨old, he⟩, oi, hi, _⟩ := id Z
      unfold efp at hb
      simp only [List.mem_cons, List.not_mem_nil, or_false] at hb
      rcases hb with rfl | rfl
      · exact Heap.lt_size he
      · exact Heap.lt_size hi
    obtain ⟨⟨old, he⟩, hit⟩ := id Z
    refine wpAny_pyNext_enum_item he hit e1 (x := u) (by simpa using hu) (Nat.succ_ne_self n) fun h' ho hit' hT hz hk => ?_
    refine ⟨.ref s.heap.objs.size, rfl, wpAny_letOwnedTupleGo_enum (s := { s with heap := h', toks := s.toks + 1 }) ho fun h'' he'' sb => ?_⟩
    have sb : Heap.SameBut (n + 1) h' h'' := sb
    have n1 : n + 1 ∈ efp n := .head _
    have n0 : n ∈ efp n := .tail _ (.head _)
    have I1 : Inv X pins σ (upd H s.heap.objs.size (.tup [.int (i : Int), x])) { s with heap := s.heap.push { cls := .type "tuple", data := .seq #[.int i s.toks, u] }, toks := s.toks } :=
      I.laid (fun b o e => Heap.get?_push_of_some _ e) (Nat.le_refl _) ⟨by show 2 ≤ sizeLine; decide, [.int i s.toks, u], .cons ⟨_, rfl⟩ (.cons ru .nil), ⟨_, Heap.get?_push_size _ rfl, rfl, _, rfl⟩⟩
    have none' : ∀ b ∈ efp n, upd H s.heap.objs.size (.tup [.int (i : Int), x]) b = none := fun b hb => by
      rw [upd_ne (Nat.ne_of_lt (fl b hb))]; exact (hf b hb).1
    have I2 : Inv X pins σ (upd H s.heap.objs.size (.tup [.int (i : Int), x])) { s with heap := h'', toks := s.toks + 1 } := Inv.turnedL (s := { s with heap := s.heap.push { cls := .type "tuple", data := .seq #[.int i s.toks, u] }, toks := s.toks }) (fp := efp n) (t' := s.toks + 1) I1 (fun b o hb e => by
      have hb4 : b ≠ n + 1 := fun z => hb (by rw [z]; exact n1)
      have hb0 : b ≠ n := fun z => hb (by rw [z]; exact n0)
      refine sb.extBut _ _ hb4 ?_
      rcases Heap.get?_push_cases e with ⟨z, z2⟩ | e
      · rw [z, z2]; exact hT
      · exact hk b o hb4 hb0 e) fun b hb => ⟨none' b hb, (hf b hb).2⟩
    exact ⟨.ref s.heap.objs.size, _, I2, rfl, ⟨_, x, rfl, I.fresh, rfl, fun zs hz => by rw [I.knd_inj (k := .L) hz q1]; exact hx⟩, ⟨⟨_, he''⟩, hit'.extBut sb.extBut (Ne.symm (Nat.succ_ne_self n))⟩, none'⟩
  done := by
    intro X hP hw hK hc i pins s σ H E I hf Z hg
    subst hP hw hK
    obtain ⟨xs, q1, hx⟩ := hg
    obtain ⟨its, r1, e1⟩ := I.knd (k := .L) q1
    have l1 := r1.length
    obtain ⟨⟨old, he⟩, hit⟩ := id Z
    refine wpAny_pyNext_enum_end (I.ok.hd hc) he hit e1 (by simp; omega) fun h' hk => ⟨rfl, I.turnedL (fp := efp n) (t' := s.toks) (fun b o hb e => hk b o (fun z => hb (by rw [z]; exact .tail _ (.head _))) e) hf⟩
  self := fun _ _ _ _ _ Z h => by
    obtain ⟨⟨old, he⟩, _⟩ := Z
    exact wpAny_pyIter_enum he h
section
variable {X : Cx} {els : List Expr} {x1 : Nat} {tpos : Pos}
noncomputable def iEnum (K : PySem.W.Frag) (ta : TA) : TI := fun σ H R => ta σ H fun vs H1 => ∃ a, vs = [.ref a] ∧ (∃ xs, SqL K H1 a xs) ∧ R (Ite K a) H1
theorem pi_enum {a : Expr} {ta : TA} {p pos : Pos} (hg : Gl X "enumerate") (hm : X.mg "enumerate" = none) (ha : PA X [a] ta) (hs : plainE a = true := by rfl) :
    PI X (.Tuple els x1 tpos) (.Call (.Name "enumerate" p) [a] [] pos) (iEnum X.K ta) := by
  intro pins s σ H R I h
  refine wpAny_Call_Name_kw (ld_blt I hg hm PyProof.Rows.Boot.«enumerate» ?_)
  refine PyProof.Rows.callWith_type1 (thn (ha pos pins s σ H _ I h) fun us s1 h1 => ?_) (star_plain hs) (any_plain rfl)
  obtain ⟨vs, H1, I1, r, a1, rfl, ⟨xs, q1⟩, q⟩ := h1
  obtain ⟨u, rfl, ru⟩ := vals1 r
  cases ru
  obtain ⟨its, r1, e1⟩ := I1.knd (k := .L) q1
  refine call_enumerate_list e1 fun h' he hit hz hk => wpAny_pyIter_enum he ?_
  refine ⟨s1.heap.objs.size + 1, efp s1.heap.objs.size, _, _, H1, rfl, I1.kept (t' := s1.toks) hk, turn_enum _ a1, ⟨⟨_, he⟩, hit⟩, fun b hb => ?_, q⟩
  have hle : s1.heap.objs.size ≤ b := by
    unfold efp at hb
    simp only [List.mem_cons, List.not_mem_nil, or_false] at hb
    rcases hb with rfl | rfl
    · exact Nat.le_add_right _ _
    · exact Nat.le_refl _
  exact I1.fpOk hle (I1.hok.fresh hle)
end
theorem for_enum {K : PySem.W.Frag} {a : Addr} {xs : List V} {g : TG} {tb : TS} {D : Ends} {σ : St} {H : Hp} (Pv : Nat → St → Hp → Prop) (h0 : Pv 0 σ H) (hl : ∀ i σ H, Pv i σ H → SqL K H a xs)
    (hs : ∀ i x p σ H, xs[i]? = some x → Pv i σ H → H p = none → g (.ref p) σ (upd H p (.tup [.int (i : Int), x])) fun σ2 H2 => tb { D with nx := Pv (i + 1), ct := Pv (i + 1), bk := D.nx } σ2 H2)
    (hd : ∀ σ H, Pv xs.length σ H → D.nx σ H) :
    ∃ W : Nat → Nat → St → Hp → Prop, (∃ m, W 0 m σ H) ∧ ∀ i m σ H, W i m σ H →
      ((Ite K a).stop i H ∧ D.nx σ H) ∨ ((Ite K a).go i H ∧ ∃ N : St → Hp → Prop, (∀ σ' H', N σ' H' → ∃ m', m' < m ∧ W (i + 1) m' σ' H') ∧ ∀ x H', (Ite K a).yld i H x H' → g x σ H' fun σ2 H2 => tb { D with nx := N, ct := N, bk := D.nx } σ2 H2) := by
  refine ⟨fun i m σ H => m = xs.length - i ∧ i ≤ xs.length ∧ Pv i σ H, ⟨_, rfl, Nat.zero_le _, h0⟩, ?_⟩
  rintro i m σ H ⟨rfl, hi, p⟩
  have q1 := hl i σ H p
  by_cases hlt : i < xs.length
  · refine .inr ⟨⟨xs, _, q1, List.getElem?_eq_getElem hlt⟩, Pv (i + 1), fun σ' H' n => ⟨_, by omega, rfl, hlt, n⟩, fun x H' hy => ?_⟩
    obtain ⟨a, u, rfl, ha, rfl, hu⟩ := hy
    exact hs i u a σ H (hu xs q1) p ha
  · have e : i = xs.length := by omega
    subst e
    exact .inl ⟨⟨xs, q1, Nat.le_refl _⟩, hd σ H p⟩
end L2
set_option Elab.async false
set_option linter.all false
set_option maxRecDepth 100000
set_option maxHeartbeats 2000000
namespace L2
open PySem PySem.Spec PyProof.Rows
section
variable {M : Model} {A : Around} {E : Value → Shared → Prop} {s : Shared}
end
section
variable {P : Program} {w : World} {K : PySem.W.Frag} {mg : Str → Option Value} {base : Heap} {N : List Str} {qual : Str} {scope : Scope} {f : Addr} {cd : Value} {A : Around} {outer : List Env} {s s1 : Shared} {H H1 : Hp} {E : XK}
  {pins : List (Addr × Obj)} {σ : St} {hid : List Addr} {h' : Heap} {ea : Addr} {C a0 : Value} {d : Option Addr}
end
section
variable {P : Program} {w : World} {K : PySem.W.Frag} {mg : Str → Option Value} {base : Heap} {N : List Str} {qual : Str} {scope : Scope} {f : Addr} {cd : Value} {A : Around} {outer : List Env} {s : Shared} {H : Hp} {E : XK}
end
section
variable {X : Cx} {pins : List (Addr × Obj)} {σ : St} {H : Hp} {s : Shared}
end
section
variable {K : PySem.W.Frag} {g : TG} {te : TE} {σ0 : St} {H1 : Hp} {Q : VK}
end
end L2
set_option Elab.async false
set_option linter.all false
set_option maxRecDepth 100000
set_option maxHeartbeats 2000000
namespace L2
open PySem PySem.Spec PyProof.Rows
section
variable {X : Cx}
end
end L2
set_option Elab.async false
set_option linter.all false
set_option maxRecDepth 100000
set_option maxHeartbeats 2000000
namespace L2
open PySem PySem.Spec PyProof.Rows
section
variable {P : Program} {w : World} {K : PySem.W.Frag} {mg : Str → Option Value} {base : Heap}
end
section
variable {X : Cx}
end
noncomputable def exPhi (ea C : Addr) (d : Option Addr) : Heap → Prop := fun h => ∃ o vs, h.get? ea = some o ∧ (o.cls = .ref C ∧ Dx o d) ∧ o.data = .fields vs
theorem exPhi_keep {ea C : Addr} {d : Option Addr} : ∀ h1 h2 : Heap, exPhi ea C d h1 → (∀ o, h1.get? ea = some o → h2.get? ea = some o) → exPhi ea C d h2 := fun _ _ ⟨o, vs, e, c, d⟩ k => ⟨o, vs, k o e, c, d⟩
section
variable {X : Cx} {pins : List (Addr × Obj)} {σ : St} {H : Hp} {s : Shared} {ea C : Addr} {d : Option Addr}
theorem Inv.track (I : Inv X pins σ H s) (n : H ea = none) (p : exPhi ea C d s.heap) (h0 : X.s₀.heap.get? ea = none) (h1 : ea ≠ X.env.locals) (h2 : ∀ x c, X.env.cells.lookup x = some c → c ≠ ea) (h3 : ∀ p ∈ X.pn ++ pins, p.1 ≠ ea) :
    Inv X pins σ (upd H ea (.ext (exPhi ea C d))) s := by
  have keep : ∀ {b : Addr} {o : HO}, H b = some o → upd H ea (.ext (exPhi ea C d)) b = some o := fun {b o} e => by rw [upd_ne (by rintro rfl; rw [n] at e; cases e)]; exact e
  have none' : ∀ {b : Addr}, b ≠ ea → H b = none → upd H ea (.ext (exPhi ea C d)) b = none := fun {b} hb e => by rw [upd_ne hb]; exact e
  refine ⟨I.ok, I.os, I.bare, ⟨I.base.keep, I.base.slot, fun b o q z hx => ?_, I.base.there, fun b xs e => keep (I.base.tups b xs e), fun b o u e => keep (I.base.frzs b o u e), fun b ps e => ?_⟩, I.loc, I.cell, none' (Ne.symm h1) I.free, fun x c e => none' (h2 x c e) (I.freeC x c e), fun p hp => ?_, fun b o e => ?_, I.len⟩
  · exact none' (by rintro rfl; rw [h0] at q; cases q) (I.base.free b o q z hx)
  · obtain ⟨m, q⟩ := I.base.tbls b ps e
    exact ⟨m, keep q⟩
  · obtain ⟨e, z, r⟩ := I.pin p hp
    exact ⟨e, none' (h3 p hp) z, r⟩
  · by_cases hb : b = ea
    · subst hb
      rw [upd_same] at e; cases e
      obtain ⟨o, vs, q, _⟩ := id p
      exact ⟨p, ⟨o, q⟩, exPhi_keep⟩
    · rw [upd_ne hb] at e
      exact (I.hok b o e).stay (fun c v _ q => q) (fun c q => keep q) fun c xs q => keep q
theorem forget_ok {M : Model} {A : Around} {E : Value → Shared → Prop} {i : Nat} {x : Str} {pos : Pos} {Q : Unit → Shared → Prop} (I : Inv X pins σ H s) (hN : X.N.Nodup) (hi : X.N[i]? = some x) (hx : X.env.scope.names.lookup x = some .local)
    (h : ∀ s', Inv X pins (σ.set i none) H s' → Q () s') : wpAny M A (do bindName X.env x .none; unbindBehindTheSuite X.env x pos) Q E s := by
  obtain ⟨m, hn, hl⟩ := id I.loc
  have hcls : (X.env.scope.kind == .class || (X.env.scope.kind == .module && X.env.locals != X.env.globals)) = false := by rw [I.ok.kind]; rfl
  have hiσ : i < σ.length := by rw [I.len]; exact (List.getElem?_eq_some_iff.mp hi).1
  have cne := I.cne
  obtain ⟨oL, _, _, hoL, _⟩ := id hn
  refine wpAny_nameGoes_keeps hx hn hcls fun h' v hn' hs => ?_
  have hs : Heap.SameBut X.env.locals s.heap h' := hs
  refine h _ ⟨I.ok, I.os, I.bare, ⟨fun b o e n hb hx => ?_, fun b o e n hb hx => ?_, I.base.free, fun b o e hx => ?_, I.base.tups, I.base.frzs, I.base.tbls⟩, ⟨_, hn', fun j y v' e1 e2 e3 => ?_⟩, fun y c e => ?_, I.free, I.freeC, fun p hp => ?_, fun b ob e => ?_, by simpa using I.len⟩
  · exact (hs.2 b (Nat.ne_of_lt (Nat.lt_of_lt_of_le (Heap.lt_size e) I.ok.above))).trans (I.base.keep b o e n hb hx)
  · obtain ⟨sl, e1⟩ := I.base.slot b o e n hb hx
    exact ⟨sl, (hs.2 b (Nat.ne_of_lt (Nat.lt_of_lt_of_le (Heap.lt_size e) I.ok.above))).trans e1⟩
  · obtain ⟨o', e1⟩ := I.base.there b o e hx
    exact ⟨o', (hs.2 b (Nat.ne_of_lt (Nat.lt_of_lt_of_le (Heap.lt_size e) I.ok.above))).trans e1⟩
  · by_cases hj : j = i
    · subst hj
      rw [List.getElem?_set_self hiσ] at e2
      cases e2
    · rw [List.getElem?_set_ne (Ne.symm hj)] at e2
      obtain ⟨u', r', q⟩ := hl j y v' e1 e2 e3
      refine ⟨u', r', ?_⟩
      rcases q with ⟨k, e⟩ | ⟨k, c, e, z⟩
      · refine .inl ⟨k, ?_⟩
        have : y ≠ x := fun e => hj (nodup_ix hN e1 (e ▸ hi))
        simp [this, e]
      · exact .inr ⟨k, c, e, z.sameBut hs (cne y c e)⟩
  · obtain ⟨w', z⟩ := I.cell y c e
    exact ⟨w', z.sameBut hs (cne y c e)⟩
  · obtain ⟨e, n, ne, nf, d⟩ := I.pin p hp
    exact ⟨(hs.2 p.1 ne).trans e, n, ne, nf, d⟩
  · refine (I.hok b ob e).stay (fun c w' hc q => (hs.2 c ?_).trans q) (fun _ q => q) fun _ _ q => q
    rintro rfl
    rcases hc with rfl | hc
    · rw [I.free] at e; cases e
    · rw [I.free] at hc; cases hc
end
noncomputable def Ends.less (D : Ends) (i : Nat) : Ends := { nx := fun σ H => D.nx (σ.set i none) H, rt := D.rt, bk := fun σ H => D.bk (σ.set i none) H, ct := fun σ H => D.ct (σ.set i none) H }
noncomputable def hAs (K : PySem.W.Frag) (C1 : Addr) (i : Nat) (ts : TS) (tr : TH) : TH := fun C d D σ H => (PySem.W.exmOne K C (.ref C1) = some true ∧ ∃ c, C = .ref c ∧ ∀ ea, H ea = none → ts (D.less i) (σ.set i (some (.ref ea))) (upd H ea (.ext (exPhi ea c d)))) ∨ (PySem.W.exmOne K C (.ref C1) = some false ∧ tr C d D σ H)
section
variable {X : Cx}
theorem ph_as {x n : Str} {i : Nat} {np pos : Pos} {b₀ : Stmt} {suite : List Stmt} {rest : List ExceptHandler} {C1 : Addr} {ts : TS} {tr : TH} (O : Own X) (hm : X.mg x = some (.ref C1)) (hN : X.N.Nodup) (hi : X.N[i]? = some n) (hl : X.env.scope.names.lookup n = some .local)
    (hb : ∀ ea, PSs (X.mark ea).nox (b₀ :: suite) ts) (hr : PH X rest tr) (hg : Gl X x := by rfl) (hdb : (x == ("__debug__" : Str)) = false := by decide) :
    PH X (.ExceptHandler (some (.Name x np)) (some n) (b₀ :: suite) pos :: rest) (hAs X.K C1 i ts tr) := by
  intro pins s σ H D ea C d I f h
  have hcls : ∃ oe, s.heap.get? ea = some oe ∧ oe.cls = C := by
    obtain ⟨oe, vs, T, oT, ts, a0, he, ⟨hc, _⟩, _⟩ := f
    exact ⟨oe, he, hc⟩
  obtain ⟨oe, he, hc⟩ := hcls
  subst hc
  refine wpAny_handleBy_cons (codeAny_handlers_test (ld_glob (X := X.mark ea) (I.mark ea) hg hm ?_ hdb)) (by intro q; cases q)
  have LT : PySem.W.Looks (model X.prog X.w) s.heap (typeOf (.ref ea)) oe.cls := (PySem.W.Looks.ld he).andThen .now
  rcases h with ⟨hx, c, hc, h⟩ | ⟨hx, h⟩
  · refine (PySem.W.exm_one I.kIn LT hx).here ?_
    refine codeAny_handlers_suite_as (land_fly O I f fun h' I' f' => ?_)
    obtain ⟨oe', vs, T, oT, ts', a0, he', ⟨hc', hx'⟩, h0, hd, h1, hne, hT, hdT, h3, n1, n2, hb'⟩ := f'
    obtain ⟨y1, y2, y3, y4⟩ := hb' ea (.inl rfl)
    have It := I'.track (C := c) n1 ⟨oe', vs, he', ⟨by rw [hc', hc], hx'⟩, hd⟩ y1 y2 y3 y4
    refine store_ok (X := X) It hN hi (.inl hl) (v := .ref ea) rfl (fun s2 I2 => ?_) (.inr hl)
    refine wpAny_mono (hb ea pins s2 _ _ (D.less i) ((I2.mark ea).wish _) (h ea n1)) (fun fl s3 q => ?_) (fun _ _ z => z.elim)
    have q := SP.unmark I.ok (SP.unwish q)
    cases fl with
    | next => obtain ⟨σ', H', J, q⟩ := q; exact forget_ok J hN hi hl fun s4 J' => ⟨_, H', J', q⟩
    | brk => obtain ⟨σ', H', J, q⟩ := q; exact forget_ok J hN hi hl fun s4 J' => ⟨_, H', J', q⟩
    | cont => obtain ⟨σ', H', J, q⟩ := q; exact forget_ok J hN hi hl fun s4 J' => ⟨_, H', J', q⟩
    | ret u => obtain ⟨v, σ', H', J, r, q⟩ := q; exact forget_ok J hN hi hl fun s4 J' => ⟨v, _, H', J', r, q⟩
  · exact (PySem.W.exm_one I.kIn LT hx).here (hr pins s σ H D ea _ d I f h)
end
end L2
set_option Elab.async false
set_option linter.all false
set_option maxRecDepth 100000
set_option maxHeartbeats 2000000
namespace L2
open PySem PySem.Spec PyProof.Rows Builtin Builtin.ObjectAttr Builtin.Getset_descriptor
section
variable {prog : Program} {w : World} {A : Around} {E : Value → Shared → Prop} {s : Shared} {K : PySem.W.Frag} {ea C : Addr} {oe : Obj} {R : Result → Shared → Prop}
structure ExcC (K : PySem.W.Frag) (C : Addr) : Prop where
  ga : PySem.W.findIn K (.ref C) "__getattribute__" = some (some (.builtin "BaseException.__getattribute__"))
  gt : PySem.W.findIn K (.ref C) "__getattr__" = some none
  cl : PySem.W.findIn K (.ref C) "__class__" = some (some (.builtin "object.__class__"))
  sp : PySem.W.specialIn K (.builtin "object.__class__") "__get__" = some (some (.builtin "getset_descriptor.__get__"))
  tk : PySem.W.takesIn K (.builtin "object.__class__") = some true
  mo : PySem.W.mroIn K C (.type "object") = some true
  mb : PySem.W.mroIn K C (.type "BaseException") = some true
theorem bind_ga {x : Value} : bindSpecial (.builtin "BaseException.__getattribute__") x = pure (Value.builtin "BaseException.__getattribute__", [x]) := by
  have e : typeOf (.builtin "BaseException.__getattribute__") = pure (.type "wrapper_descriptor") := by kernel_rfl
  unfold bindSpecial; rw [e]; rfl
theorem plain_ga : plainId "BaseException.__getattribute__" = true := by decide +kernel
end
section
variable {X : Cx}
end
end L2
set_option Elab.async false
set_option linter.all false
set_option maxRecDepth 100000
set_option maxHeartbeats 2000000
namespace L2
open PySem PySem.Spec PyProof.Rows
section
variable {X : Cx}
end
end L2
set_option Elab.async false
set_option linter.all false
set_option maxRecDepth 100000
set_option maxHeartbeats 2000000
namespace L2
open PySem PySem.Spec PyProof.Rows
theorem len_cons {us : List Value} {n : Nat} (h : us.length = n + 1) : ∃ u t, us = u :: t ∧ t.length = n := by
  cases us with
  | nil => cases h
  | cons u t => exact ⟨u, t, rfl, Nat.succ.inj h⟩
theorem len_nil {us : List Value} (h : us.length = 0) : us = [] := List.eq_nil_of_length_eq_zero h
theorem binds1 {x : Str} {st : Stmt} {a : Str} (h : ∀ (kV doc pm : Value) (an : Option Addr) (cdv ct u0 : Value), bindArgs (PySem.W.fnOf x x (defArgs st) (defBody st) (defScope st) .none kV doc pm an cdv ct) ⟨[u0], []⟩ = pure [(a, u0)]) : BindsAll x st [a] :=
  fun kV doc pm an cdv ct us h0 => by
    obtain ⟨u0, t1, rfl, h1⟩ := len_cons h0
    obtain rfl := len_nil h1
    exact h kV doc pm an cdv ct u0
theorem binds2 {x : Str} {st : Stmt} {a b : Str} (h : ∀ (kV doc pm : Value) (an : Option Addr) (cdv ct u0 u1 : Value), bindArgs (PySem.W.fnOf x x (defArgs st) (defBody st) (defScope st) .none kV doc pm an cdv ct) ⟨[u0, u1], []⟩ = pure [(a, u0), (b, u1)]) : BindsAll x st [a, b] :=
  fun kV doc pm an cdv ct us h0 => by
    obtain ⟨u0, t1, rfl, h1⟩ := len_cons h0
    obtain ⟨u1, t2, rfl, h2⟩ := len_cons h1
    obtain rfl := len_nil h2
    exact h kV doc pm an cdv ct u0 u1
theorem binds3 {x : Str} {st : Stmt} {a b c : Str} (h : ∀ (kV doc pm : Value) (an : Option Addr) (cdv ct u0 u1 u2 : Value), bindArgs (PySem.W.fnOf x x (defArgs st) (defBody st) (defScope st) .none kV doc pm an cdv ct) ⟨[u0, u1, u2], []⟩ = pure [(a, u0), (b, u1), (c, u2)]) : BindsAll x st [a, b, c] :=
  fun kV doc pm an cdv ct us h0 => by
    obtain ⟨u0, t1, rfl, h1⟩ := len_cons h0
    obtain ⟨u1, t2, rfl, h2⟩ := len_cons h1
    obtain ⟨u2, t3, rfl, h3⟩ := len_cons h2
    obtain rfl := len_nil h3
    exact h kV doc pm an cdv ct u0 u1 u2
section
variable {X : Cx}
theorem pss_cutF {ι : Type} {st : Stmt} {rest : List Stmt} {t u : TS} (G : ι → St → Hp → Prop) (h1 : PS X st t) (h2 : PSs X rest u) : PSs X (st :: rest) (fun D σ H => ∃ i : ι, (∀ σ' H', G i σ' H' → u D σ' H') ∧ t { D with nx := G i } σ H) := by
  intro pins s σ H D I ⟨i, ha, hb⟩
  exact pss_cut (G i) h1 h2 pins s σ H D I ⟨ha, hb⟩
end
end L2
set_option Elab.async false
set_option linter.all false
set_option maxRecDepth 100000
set_option maxHeartbeats 2000000
set_option exponentiation.threshold 10000
namespace L2
open PySem PySem.Spec PyProof.Rows
section
variable {X : Cx}
end
end L2
set_option Elab.async false
set_option linter.all false
set_option maxRecDepth 100000
set_option maxHeartbeats 2000000
namespace L2
open PySem PySem.Spec PyProof.Rows
section
variable {X : Cx} {pins : List (Addr × Obj)} {σ : St} {H : Hp} {s : Shared}
theorem compLoop_if {prog : Program} {w : World} {A : Around} {s : Shared} {elt tg iter c : Expr} {scope : Scope} {pos : Pos} {it acc : Value} {env : Env} {R : Result → Shared → Prop} (J : Nat → Shared → Prop)
    (turn : ∀ n s, J n s → wpAny (model prog w) A (pyNext it) (fun r s1 => match r with
      | none => R (.ok .next) s1
      | some v => wpAny (model prog w) A (letOwnedTupleGo tg it v) (fun _ s2 => wpAny (model prog w) A (assign tg env v) (fun _ s3 => wpAny (model prog w) A (isTrue c env (eval c env)) (fun ok s3' => if ok = true then wpAny (model prog w) A (eval elt env) (fun x s4 =>
          wpAny (model prog w) A (call (.builtin "list.append") [acc, x]) (fun _ s5 => ∃ m, m < n ∧ J m s5) (notedBy (model prog w) A env fun e s' => R (.error e) s') s4) (notedBy (model prog w) A env fun e s' => R (.error e) s') s3' else ∃ m, m < n ∧ J m s3')
          (notedBy (model prog w) A env fun e s' => R (.error e) s') s3)
          (notedBy (model prog w) A env fun e s' => R (.error e) s') s2) (notedBy (model prog w) A env fun e s' => R (.error e) s') s1) (notedBy (model prog w) A env fun e s' => R (.error e) s') s)
    (n : Nat) (h : J n s) : codeAny (model prog w) A (.compLoop (.ListComp elt [⟨tg, iter, [c], 0⟩] scope pos) 0 it acc env) R s := by
  refine codeAny_loop rfl J (fun n s hJ => ?_) n h
  show wpAny _ A ((compTurn (.ListComp elt [⟨tg, iter, [c], 0⟩] scope pos) 0 it acc env).onRaise (fun x => do noteFrame x env; theTreesLotGoes x)) _ _ s
  refine wpAny_noted ?_; rw [compTurn_list]
  refine wpAny_bind (wpAny_standAt (wpAny_bind (wpAny_mono (turn n s hJ) (fun r s1 h1 => ?_) fun _ _ z => z)))
  match r, h1 with
  | none, h1 => exact wpAny_pure h1
  | some v, h1 =>
    refine wpAny_bind (wpAny_mono h1 (fun _ s2 h2 => ?_) fun _ _ z => z)
    refine wpAny_bind (wpAny_mono h2 (fun _ s3 h3 => wpAny_bind (wpAny_mono (wpAny_tests_one h3) (fun ok s3' h3' => ?_) fun _ _ z => z)) fun _ _ z => z)
    cases ok with
    | true =>
      have h3' : wpAny (model prog w) A (eval elt env) _ _ s3' := h3'
      exact wpAny_bind (wpAny_bind (wpAny_mono h3' (fun x s4 h4 => wpAny_bind (wpAny_mono h4 (fun _ s5 h5 => wpAny_pure (wpAny_pure ⟨rfl, h5⟩)) fun _ _ z => z)) fun _ _ z => z))
    | false =>
      have h3' : ∃ m, m < n ∧ J m s3' := h3'
      exact wpAny_bind (wpAny_pure (wpAny_pure ⟨rfl, h3'⟩))
theorem comp_loopF {elt iter c : Expr} {tg : Expr} {pos : Pos} {scope : Scope} {g : TG} {tc : TT} {te : TE} {lv : Nat} {caps : List Nat} {N' : List Str} {fp : List Addr} {it D C : Addr} {tn : Nat → Heap → Prop} {J : It} {H3 : Hp} {s3 s4 : Shared} {Q : VK} {W : Nat → Nat → List V → Hp → Prop} {m0 : Nat}
    (hc : X.calm = true) (T : Turn X.prog X.w X.K tg J fp it tn) (hC : s3.heap.objs.size ≤ C) (I3 : Inv X pins σ H3 s3) (f3 : ∀ b ∈ fp, FpOk X pins H3 b) (hCf : ∀ b ∈ fp, b ≠ C) (I4 : Inv (X.comp scope C N' s3 H3 fp) [] (seen lv caps σ) H3 s4) (st4 : tn 0 s4.heap) (w0 : W 0 m0 [] H3)
    (turn : ∀ i m ys H, W i m ys H → H D = some (.lst ys) ∧ ys.length < sizeLine ∧ ((J.stop i H ∧ Q (.ref D) H) ∨ (J.go i H ∧ ∀ x H', J.yld i H x H' → g x (seen lv caps σ) H' fun σ2 H2 => tc σ2 H2 fun b H2' => if b = true then te σ2 H2' fun v H3 => H3 D = some (.lst ys) ∧
      ∃ m', m' < m ∧ W (i + 1) m' (ys ++ [v]) (upd H3 D (.lst (ys ++ [v]))) else ∃ m', m' < m ∧ W (i + 1) m' ys H2')))
    (hgk : GKeep g lv caps) (hg : PG (X.comp scope C N' s3 H3 fp) tg g) {xe : Value → Shared → Prop} {R : Result → Shared → Prop}
    (hstop : ∀ H5 s6, Inv (X.comp scope C N' s3 H3 fp) [] (seen lv caps σ) H5 s6 → Q (.ref D) H5 → R (.ok .next) s6)
    (herr : ∀ e s', xe e s' → notedBy (model X.prog X.w) X.A (compEnvC scope (clOf scope X.env) C X.env) (fun e s' => R (.error e) s') e s')
    (hct : PT ((X.comp scope C N' s3 H3 fp).wish xe) c tc) (he : PE ((X.comp scope C N' s3 H3 fp).wish xe) elt te) :
    codeAny (model X.prog X.w) X.A (.compLoop (.ListComp elt [⟨tg, iter, [c], 0⟩] scope pos) 0 (.ref it) (.ref D) (compEnvC scope (clOf scope X.env) C X.env)) R s4 := by
  have stat : ∀ {H' : Hp}, (∀ b ∈ fp, H' b = none) → ∀ b ∈ fp, FpOk (X.comp scope C N' s3 H3 fp) [] H' b := fun {H'} hn b hb =>
    ⟨hn b hb, hCf b hb, fun z => I4.ok.exfs b hb z, .inl hb, fun y c e => (I4.ok.exf b hb).2 y c e, fun p hp => absurd (show p ∈ ([] : List (Addr × Obj)) from hp) (by simp)⟩
  refine compLoop_if (fun n s' => ∃ i ys H', Inv (X.comp scope C N' s3 H3 fp) [] (seen lv caps σ) H' s' ∧ tn i s'.heap ∧ (∀ b ∈ fp, H' b = none) ∧ W i n ys H') ?_ m0 ⟨0, [], _, I4, st4, fun b hb => (f3 b hb).1, w0⟩
  rintro n s5 ⟨i, ys, H5, I5, st5, fr5, w5⟩
  obtain ⟨hD, hlen, hcase⟩ := turn i n ys H5 w5
  rcases hcase with ⟨stop, q⟩ | ⟨go, step⟩
  · refine thn (T.done (X.comp scope C N' s3 H3 fp) rfl rfl rfl hc i [] s5 _ H5 _ I5 (stat fr5) st5 stop) fun r s6 hr => ?_
    obtain ⟨hr, I6⟩ := hr
    subst hr
    exact hstop _ _ I6 q
  · refine thn (T.item (X.comp scope C N' s3 H3 fp) rfl rfl rfl hc i [] s5 _ H5 _ I5 (stat fr5) st5 go) fun r s6 hr => ?_
    obtain ⟨u, hr, h6⟩ := hr
    subst hr
    refine thn h6 fun _ s7 h7 => ?_
    obtain ⟨y, H7, I7, r7, y7, st7, fr7⟩ := h7
    have I7' := I7.pinned (stat fr7) (T.obj _ _ st7)
    refine wpAny_mono (hg _ s7 _ H7 y u _ I7' r7 (hgk σ y H7 _ (step y H7 y7))) (fun _ s8 h8 => ?_) (fun _ _ z => z.elim)
    obtain ⟨σ8, H8, I8, q8, ks⟩ := h8
    refine wpAny_mono (hct _ s8 σ8 H8 _ (I8.wish _) q8) (fun b s8' hb => ?_) (fun e s9 z => herr e s9 z)
    obtain ⟨H8', I8', q8'⟩ := hb
    cases b with
    | true =>
      have q8' : te σ8 H8' _ := q8'
      show wpAny _ _ _ _ _ s8'
      refine wpAny_mono (he _ s8' σ8 H8' _ I8' q8') (fun v s9 h9 => ?_) (fun e s9 z => herr e s9 z)
      obtain ⟨z9, H9, I9, r9, hD9, m', hm', w9⟩ := h9
      have I9 := I9.unwish
      refine wpAny_mono (mt_append (X := X.comp scope C N' s3 H3 fp) _ s9 σ8 H9 (.ref D) [z9] (.ref D) [v] (fun _ H' => H' = upd H9 D (.lst (ys ++ [z9]))) I9 rfl (.cons r9 .nil) ⟨D, ys, z9, rfl, rfl, hD9, hlen, rfl⟩) (fun _ s10 h10 => ?_) (fun _ _ z => z.elim)
      obtain ⟨_, H10, I10, _, rfl⟩ := h10
      refine ⟨m', hm', i + 1, ys ++ [z9], _, I10.unpinned.weak ?_ ?_, T.keep _ _ _ st7 fun b hb o e => (I10.pin (b, o) (List.mem_append_right _ (List.mem_append_right _ (mem_pinsAt hb e)))).1, fun b hb => ?_, w9⟩
      · rw [I10.len]; exact I4.len
      · exact ks
      · obtain ⟨o, e, d⟩ := T.obj _ _ st7 b hb
        exact (I10.pin (b, o) (List.mem_append_right _ (List.mem_append_right _ (mem_pinsAt hb e)))).2.1
    | false =>
      have q8' : ∃ m', m' < n ∧ W (i + 1) m' ys H8' := q8'
      obtain ⟨m', hm', w9⟩ := q8'
      have I10 := I8'.unwish
      show ∃ m, m < n ∧ _
      refine ⟨m', hm', i + 1, ys, _, I10.unpinned.weak ?_ ?_, T.keep _ _ _ st7 fun b hb o e => (I10.pin (b, o) (List.mem_append_right _ (mem_pinsAt hb e))).1, fun b hb => ?_, w9⟩
      · rw [I10.len]; exact I4.len
      · exact ks
      · obtain ⟨o, e, d⟩ := T.obj _ _ st7 b hb
        exact (I10.pin (b, o) (List.mem_append_right _ (mem_pinsAt hb e))).2.1
theorem comp_back {scope : Scope} {lv : Nat} {caps : List Nat} {N' : List Str} {fp : List Addr} {C : Addr} {H3 H5 : Hp} {s3 s6 : Shared} {h' : Heap} (hC : s3.heap.objs.size ≤ C) (I3 : Inv X pins σ H3 s3) (f3 : ∀ b ∈ fp, FpOk X pins H3 b)
    (I6 : Inv (X.comp scope C N' s3 H3 fp) [] (seen lv caps σ) H5 s6) (hs' : Heap.SameBut C s6.heap h') : Inv X pins σ H5 { s6 with heap := h' } := by
  have ub := I6.base
  have neC : ∀ b o, s3.heap.get? b = some o → b ≠ C := fun b o q => Nat.ne_of_lt (Nat.lt_of_lt_of_le (Heap.lt_size q) hC)
  refine I3.call' (ch := fp) (s' := { s6 with heap := h' }) I6.os ⟨fun b o q n hb hx => (hs'.2 b (neC b o q)).trans (ub.keep b o q n hb hx), fun b o q n hb hx => ?_, ub.free, fun b o q hx => ?_, ub.tups, ub.frzs, ub.tbls⟩ ?_ I6.bare (fun b hb => ?_)
  · obtain ⟨sl, e⟩ := ub.slot b o q n hb hx
    exact ⟨sl, (hs'.2 b (neC b o q)).trans e⟩
  · obtain ⟨o', e⟩ := ub.there b o q hx
    exact ⟨o', (hs'.2 b (neC b o q)).trans e⟩
  · intro b o q
    refine (I6.hok b o q).stay (fun c u hc' q' => (hs'.2 c ?_).trans q') (fun _ z => z) fun _ _ z => z
    intro ec
    have fC : H5 C = none := I6.free
    rcases hc' with z | z
    · rw [← z, ec, fC] at q; cases q
    · rw [ec, fC] at z; cases z
  · obtain ⟨_, y1, _, y3, y4, y5⟩ := f3 b hb
    exact ⟨y3, y1, y4, y5⟩
theorem comp_use {scope : Scope} {lv : Nat} {caps : List Nat} {N' : List Str} {fp : List Addr} {C : Addr} {H3 H5 : Hp} {s3 s6 : Shared} {i : Nat} {y : Str} {py : Pos} {v : V} {u : Value} {D : Ends} (hC : s3.heap.objs.size ≤ C) (I3 : Inv X pins σ H3 s3) (f3 : ∀ b ∈ fp, FpOk X pins H3 b)
    (hN : X.N.Nodup) (hi : X.N[i]? = some y) (hx : Loc X.env.scope y) (hf : X.fn y = true ∨ X.env.scope.names.lookup y = some .local)
    (I6 : Inv (X.comp scope C N' s3 H3 fp) [] (seen lv caps σ) H5 s6) (r : RelV v u) (q : D.nx (σ.set i (some v)) H5) :
    compPost (model X.prog X.w) X.A X.xe (some (assign (.Name y py) X.env)) (fun _ s' => SP X pins D .next s') u C (.ok .next) s6 := by
  have I := comp_back hC I3 f3 I6 (Heap.SameBut.refl C s6.heap)
  obtain ⟨m, hn, _⟩ := I6.loc
  have hn : s6.heap.Ns C m := hn
  have cL : C ≠ X.env.locals := fun z => Nat.lt_irrefl _ (Nat.lt_of_lt_of_le (z ▸ I3.lt) hC)
  have cc : ∀ x c, X.env.cells.lookup x = some c → c ≠ C := fun x c e z => by
    obtain ⟨v, o, e', _⟩ := I3.cell x c e
    exact Nat.lt_irrefl _ (Nat.lt_of_lt_of_le (z ▸ Heap.lt_size e') hC)
  show wpAny _ _ (assign (.Name y py) X.env u) _ _ _
  refine wpAny_assign_Name (store_ok2 I hN hi hx r (fun s7 I7 ⟨a, sb, ha⟩ => ?_) hf)
  have aC : C ≠ a := fun z => by
    rcases ha with e | e
    · exact cL (z.trans e)
    · exact cc _ _ e z.symm
  refine ⟨m, hn.sameBut sb aC, fun h' hs' => ?_⟩
  refine ⟨_, H5, I7.turned (it := C) (t' := s7.toks) (fun b o hb e => (hs'.2 b hb).trans e) I6.free cL (.inr (Nat.le_trans I3.sz hC)) cc (fun p hp z => ?_), q⟩
  have := (I3.pin p hp).1
  exact Nat.lt_irrefl _ (Nat.lt_of_lt_of_le (z ▸ Heap.lt_size this) hC)
noncomputable def compWF (J : It) (g : TG) (tc : TT) (te : TE) (σ0 : St) (Q : VK) (H1 : Hp) : Prop := ∀ D, H1 D = none → ∃ W : Nat → Nat → List V → Hp → Prop, (∃ m, W 0 m [] (upd H1 D (.lst []))) ∧
  ∀ i m ys H, W i m ys H → H D = some (.lst ys) ∧ ys.length < sizeLine ∧ ((J.stop i H ∧ Q (.ref D) H) ∨ (J.go i H ∧ ∀ x H', J.yld i H x H' → g x σ0 H' fun σ2 H2 => tc σ2 H2 fun b H2' => if b = true then te σ2 H2' fun v H3 => H3 D = some (.lst ys) ∧
    ∃ m', m' < m ∧ W (i + 1) m' (ys ++ [v]) (upd H3 D (.lst (ys ++ [v]))) else ∃ m', m' < m ∧ W (i + 1) m' ys H2'))
noncomputable def tCompF (wi : TI) (g : TG) (tc : TT) (te : TE) (lv : Nat) (caps : List Nat) : TE := fun σ H Q => wi σ H fun J H1 => compWF J g tc te (seen lv caps σ) Q H1
theorem pe_compF {elt iter c : Expr} {tg : Expr} {pos : Pos} {scope : Scope} {wi : TI} {g : TG} {tc : TT} {te : TE} {lv : Nat} {caps : List Nat} {N' : List Str} {xe : Addr → Shared → Hp → List Addr → Value → Shared → Prop} (herr : ∀ (pins : List (Addr × Obj)) (σ : St) (H3 : Hp) (s3 : Shared) (C : Addr) (fp : List Addr) (Q : Value → Shared → Prop) (acc e : Value) (s' : Shared), Inv X pins σ H3 s3 → (∀ b ∈ fp, FpOk X pins H3 b) → s3.heap.objs.size ≤ C → xe C s3 H3 fp e s' →
      notedBy (model X.prog X.w) X.A (compEnvC scope (clOf scope X.env) C X.env) (fun e s' => compPost (model X.prog X.w) X.A X.xe none Q acc C (.error e) s') e s')
    (hc : X.calm = true) (ok : CompOk X scope lv caps N') (hgk : GKeep g lv caps) (hi : PI X tg iter wi)
    (hg : ∀ C s H fp, PG (X.comp scope C N' s H fp) tg g) (hct : ∀ C s H fp, PT ((X.comp scope C N' s H fp).wish (xe C s H fp)) c tc) (he : ∀ C s H fp, PE ((X.comp scope C N' s H fp).wish (xe C s H fp)) elt te) (hs : ∀ y, foldedSetIterable iter X.env y = pure y := by intro _; rfl) :
    PE X (.ListComp elt [⟨tg, iter, [c], 0⟩] scope pos) (tCompF wi g tc te lv caps) := by
  intro pins s σ H Q I h
  rw [eval_ListComp]
  refine wpAny_comprehension_free (use := none) rfl hs (closure_eq fun y hy hk => I.ok.has y.1 (ok.free y hy hk)) ok.kind ok.loc (thn (hi pins s σ H _ I h) fun v s1 h1 => thn h1 fun itv s2 h2 => ?_)
  obtain ⟨it, fp, tn, J, H2, e, I2, T, st2, f2, hW⟩ := h2
  subst e
  have fpl : ∀ b ∈ fp, b < s2.heap.objs.size := fun b hb => by obtain ⟨o, e, _⟩ := T.obj 0 _ st2 b hb; exact Heap.lt_size e
  refine wpAny_newObj_type ?_
  have I3 : Inv X pins σ (upd H2 s2.heap.objs.size (.lst [])) { s2 with heap := s2.heap.push { cls := .type "list", data := .seq ([] : List Value).toArray }, toks := s2.toks } := I2.lnew (its := []) .nil (Nat.zero_le _)
  obtain ⟨W, ⟨m0, w0⟩, turn⟩ := hW s2.heap.objs.size I2.fresh
  refine wpAny_newFunctionEnv ok.cell (by intro y hy; simp at hy) (fun h₁ hns₁ hsb₁ => ?_) ok.kind
  have hk3 : ∀ b o, (s2.heap.push { cls := .type "list", data := .seq ([] : List Value).toArray }).get? b = some o → h₁.get? b = some o := fun b o q =>
    (hsb₁.2 b (Nat.ne_of_lt (Heap.lt_size q))).trans (Heap.get?_push_of_some _ q)
  have f3 : ∀ b ∈ fp, FpOk X pins (upd H2 s2.heap.objs.size (.lst [])) b := fun b hb => by
    obtain ⟨n, r⟩ := f2 b hb
    exact ⟨by rw [upd_ne (Nat.ne_of_lt (fpl b hb))]; exact n, r⟩
  have fpl3 : ∀ b ∈ fp, b < (s2.heap.push { cls := .type "list", data := .seq ([] : List Value).toArray }).objs.size := fun b hb => by rw [Heap.size_push]; exact Nat.lt_succ_of_lt (fpl b hb)
  have I4 := inv_comp ok I3 f3 hns₁ hk3 fpl3 (s2.toks + 0)
  have st4 : tn 0 h₁ := T.keep _ _ _ st2 fun b hb o q => hk3 b o (Heap.get?_push_of_some _ q)
  have loop := comp_loopF (elt := elt) (iter := iter) (c := c) (pos := pos) (s4 := { s2 with heap := h₁, toks := s2.toks + 0 }) hc T (Nat.le_refl _) I3 f3 (fun b hb => Nat.ne_of_lt (fpl3 b hb)) I4 st4 w0 turn hgk (hg _ _ _ _) (R := compPost (model X.prog X.w) X.A X.xe none (EP X pins σ Q) (.ref s2.heap.objs.size) _) (fun H5 s6 I6 q => by
    obtain ⟨m, hn, _⟩ := I6.loc
    exact ⟨m, hn, fun h' hs' => ⟨.ref s2.heap.objs.size, H5, comp_back (Nat.le_refl _) I3 f3 I6 hs', rfl, q⟩⟩) (fun e s' z => herr _ _ _ _ _ _ _ _ e s' I3 f3 (Nat.le_refl _) z) (hct _ _ _ _) (he _ _ _ _)
  exact codeAny_compStart_list loop (T.self _ 0 _ _ _ st4 loop)
theorem ps_setF {elt iter c : Expr} {tg : Expr} {pos spos py : Pos} {i : Nat} {y : Str} {scope : Scope} {wi : TI} {g : TG} {tc : TT} {te : TE} {lv : Nat} {caps : List Nat} {N' : List Str} {xe : Addr → Shared → Hp → List Addr → Value → Shared → Prop} (herr : ∀ (pins : List (Addr × Obj)) (σ : St) (H3 : Hp) (s3 : Shared) (C : Addr) (fp : List Addr) (Q : Value → Shared → Prop) (acc e : Value) (s' : Shared), Inv X pins σ H3 s3 → (∀ b ∈ fp, FpOk X pins H3 b) → s3.heap.objs.size ≤ C → xe C s3 H3 fp e s' →
      notedBy (model X.prog X.w) X.A (compEnvC scope (clOf scope X.env) C X.env) (fun e s' => compPost (model X.prog X.w) X.A X.xe (some (assign (.Name y py) X.env)) Q acc C (.error e) s') e s')
    (hN : X.N.Nodup) (hi' : X.N[i]? = some y) (hx : Loc X.env.scope y) (hc : X.calm = true) (ok : CompOk X scope lv caps N') (hgk : GKeep g lv caps) (hi : PI X tg iter wi)
    (hg : ∀ C s H fp, PG (X.comp scope C N' s H fp) tg g) (hct : ∀ C s H fp, PT ((X.comp scope C N' s H fp).wish (xe C s H fp)) c tc) (he : ∀ C s H fp, PE ((X.comp scope C N' s H fp).wish (xe C s H fp)) elt te) (hs : ∀ y, foldedSetIterable iter X.env y = pure y := by intro _; rfl)
    (hsw : swapsWith (.ListComp elt [⟨tg, iter, [c], 0⟩] scope pos) (some (.Name y py)) spos.line X.env = pure true := by rfl) (hf : X.fn y = true ∨ X.env.scope.names.lookup y = some .local := by first | exact .inl rfl | exact .inr rfl | assumption) :
    PS X (.Assign [.Name y py] (.ListComp elt [⟨tg, iter, [c], 0⟩] scope pos) spos) (tAsg (tCompF wi g tc te lv caps) (gName i)) := by
  intro pins s σ H E I h
  rw [exec_Assign_Name_used _ _ _ _ hsw]
  refine wpAny_bind (wpAny_standAt (wpAny_bind ?_))
  show wpAny _ _ (do let _ ← comprehension (.ListComp elt [⟨tg, iter, [c], 0⟩] scope pos) scope X.env _ (newList []) false (eval iter X.env) (some (assign (.Name y py) X.env))) _ _ s
  refine wpAny_bind (thn (wpAny_comprehension_free (use := some (assign (.Name y py) X.env)) (Q := fun _ s' => SP X pins E .next s') rfl hs (closure_eq fun y hy hk => I.ok.has y.1 (ok.free y hy hk)) ok.kind ok.loc (thn (hi pins s σ H _ I h) fun v s1 h1 => thn h1 fun itv s2 h2 => ?_)) fun _ s' hq => wpAny_pure (wpAny_pure hq))
  obtain ⟨it, fp, tn, J, H2, e, I2, T, st2, f2, hW⟩ := h2
  subst e
  have fpl : ∀ b ∈ fp, b < s2.heap.objs.size := fun b hb => by obtain ⟨o, e, _⟩ := T.obj 0 _ st2 b hb; exact Heap.lt_size e
  refine wpAny_newObj_type ?_
  have I3 : Inv X pins σ (upd H2 s2.heap.objs.size (.lst [])) { s2 with heap := s2.heap.push { cls := .type "list", data := .seq ([] : List Value).toArray }, toks := s2.toks } := I2.lnew (its := []) .nil (Nat.zero_le _)
  obtain ⟨W, ⟨m0, w0⟩, turn⟩ := hW s2.heap.objs.size I2.fresh
  refine wpAny_newFunctionEnv ok.cell (by intro y hy; simp at hy) (fun h₁ hns₁ hsb₁ => ?_) ok.kind
  have hk3 : ∀ b o, (s2.heap.push { cls := .type "list", data := .seq ([] : List Value).toArray }).get? b = some o → h₁.get? b = some o := fun b o q =>
    (hsb₁.2 b (Nat.ne_of_lt (Heap.lt_size q))).trans (Heap.get?_push_of_some _ q)
  have f3 : ∀ b ∈ fp, FpOk X pins (upd H2 s2.heap.objs.size (.lst [])) b := fun b hb => by
    obtain ⟨n, r⟩ := f2 b hb
    exact ⟨by rw [upd_ne (Nat.ne_of_lt (fpl b hb))]; exact n, r⟩
  have fpl3 : ∀ b ∈ fp, b < (s2.heap.push { cls := .type "list", data := .seq ([] : List Value).toArray }).objs.size := fun b hb => by rw [Heap.size_push]; exact Nat.lt_succ_of_lt (fpl b hb)
  have I4 := inv_comp ok I3 f3 hns₁ hk3 fpl3 (s2.toks + 0)
  have st4 : tn 0 h₁ := T.keep _ _ _ st2 fun b hb o q => hk3 b o (Heap.get?_push_of_some _ q)
  have loop := comp_loopF (Q := fun v H' => E.nx (σ.set i (some v)) H') (D := s2.heap.objs.size) (elt := elt) (iter := iter) (c := c) (pos := pos) (s4 := { s2 with heap := h₁, toks := s2.toks + 0 }) hc T (Nat.le_refl _) I3 f3 (fun b hb => Nat.ne_of_lt (fpl3 b hb)) I4 st4 w0 turn hgk (hg _ _ _ _) (R := compPost (model X.prog X.w) X.A X.xe (some (assign (.Name y py) X.env)) (fun _ s' => SP X pins E .next s') (.ref s2.heap.objs.size) _) (fun H5 s6 I6 q => comp_use (v := .ref s2.heap.objs.size) (Nat.le_refl _) I3 f3 hN hi' hx hf I6 rfl q) (fun e s' z => herr _ _ _ _ _ _ _ _ e s' I3 f3 (Nat.le_refl _) z) (hct _ _ _ _) (he _ _ _ _)
  exact codeAny_compStart_list loop (T.self _ 0 _ _ _ st4 loop)
end
section
variable {K : PySem.W.Frag} {g : TG} {tc : TT} {te : TE} {σ0 : St} {H1 : Hp} {Q : VK}
theorem comp_LF {a : Addr} {xs : List V} (hq : SqL K H1 a xs) (hl : xs.length < sizeLine) (p : V → Bool) (f : V → V)
    (step : ∀ x ∈ xs, ∀ (H' : Hp) (Q' : VK) (R : Hp → Prop), Same H1 H' → (p x = true → ∀ H2, Same H' H2 → Q' (f x) H2) → (p x = false → ∀ H2, Same H' H2 → R H2) → g x σ0 H' fun σ2 H2 => tc σ2 H2 fun b H3 => if b = true then te σ2 H3 Q' else R H3)
    (fin : ∀ D H', H1 D = none → Same H1 H' → H' D = some (.lst ((xs.filter p).map f)) → Q (.ref D) H') : compWF (Itl K a) g tc te σ0 Q H1 := by
  intro D hD
  refine ⟨fun i m ys H' => i ≤ xs.length ∧ m = xs.length - i ∧ ys = ((xs.take i).filter p).map f ∧ Same H1 H' ∧ H' D = some (.lst ys), ⟨_, Nat.zero_le _, rfl, rfl, Same.new hD, upd_same⟩, ?_⟩
  rintro i m ys H' ⟨hi, rfl, rfl, S, e⟩
  refine ⟨e, by have := List.length_filter_le p (xs.take i); rw [List.length_take] at this; rw [List.length_map]; omega, ?_⟩
  by_cases hlt : i < xs.length
  · have hx := List.getElem?_eq_getElem hlt
    refine .inr ⟨⟨xs, _, S.knd (k := .L) hq, hx⟩, fun x H'' hy => ?_⟩
    obtain ⟨rfl, hy⟩ := hy
    have hx := hy xs (S.knd (k := .L) hq)
    have et : xs.take (i + 1) = xs.take i ++ [x] := by rw [List.take_add_one, hx]; rfl
    refine step x (List.mem_of_getElem? hx) _ _ _ S (fun px H2 S2 => ⟨S2 _ _ e, xs.length - (i + 1), by omega, hlt, rfl, ?_, (S.trans S2).upd hD, upd_same⟩) (fun px H2 S2 => ⟨xs.length - (i + 1), by omega, hlt, rfl, ?_, S.trans S2, S2 _ _ e⟩)
    · rw [et, List.filter_append, List.map_append, List.filter_cons_of_pos px]; rfl
    · rw [et, List.filter_append, List.filter_cons_of_neg (by rw [px]; exact Bool.false_ne_true), List.filter_nil, List.append_nil]
  · have ei : i = xs.length := by omega
    subst ei
    rw [List.take_length] at e
    exact .inl ⟨⟨xs, S.knd (k := .L) hq, Nat.le_refl _⟩, fin D H' hD S e⟩
end
section
variable {X : Cx}
end
end L2
set_option Elab.async false
set_option linter.all false
set_option maxRecDepth 100000
set_option maxHeartbeats 2000000
namespace L2
open PySem PySem.Spec PyProof.Rows
theorem SqL.any {K : PySem.W.Frag} {H : Hp} {a : Addr} {xs : List V} (h : SqL [] H a xs) : SqL K H a xs := by
  rcases h with h | ⟨o, its, n, e, _⟩
  · exact .inl h
  · cases e
theorem SqT.any {K : PySem.W.Frag} {H : Hp} {a : Addr} {xs : List V} (h : SqT [] H a xs) : SqT K H a xs := by
  rcases h with h | ⟨o, its, n, e, _⟩
  · exact .inl h
  · cases e
theorem Sq.any {K : PySem.W.Frag} {H : Hp} {a : Addr} {xs : List V} (h : SqL [] H a xs ∨ SqT [] H a xs) : SqL K H a xs ∨ SqT K H a xs := h.elim (fun h => .inl h.any) fun h => .inr h.any
section
variable {X : Cx}
theorem ix0L : IxR X (rIxL []) := fun value slice pins s σ H x y v u Q I rx ry h => by
  obtain ⟨p, xs, i, w, e1, e2, hq, r, r'⟩ := h
  exact ix_list value slice pins s σ H x y v u Q I rx ry ⟨p, xs, i, w, e1, e2, hq.any, r, r'⟩
theorem ix0T : IxR X (rIxT []) := fun value slice pins s σ H x y v u Q I rx ry h => by
  obtain ⟨p, xs, i, w, e1, e2, hq, r, r'⟩ := h
  exact ix_tup value slice pins s σ H x y v u Q I rx ry ⟨p, xs, i, w, e1, e2, hq.any, r, r'⟩
theorem sl0L : SlR X (rSlL []) := fun pins s σ H x v vl vu lo hi sl Q I rx hs pl pu h => by
  obtain ⟨a, xs, e, hq, r⟩ := h
  exact sl_list pins s σ H x v vl vu lo hi sl Q I rx hs pl pu ⟨a, xs, e, hq.any, r⟩
theorem op0catT : OpR X (binaryOp .Add) (rCatT []) := fun pins s σ H x y v u Q I rx ry h => by
  obtain ⟨a, b, xs, ys, e1, e2, h1, h2, n, z, r0, r⟩ := h
  exact op_catT pins s σ H x y v u Q I rx ry ⟨a, b, xs, ys, e1, e2, h1.any, h2.any, n, z, r0, r⟩
theorem op0catS : OpR X (binaryOp .Add) (rCatS []) := fun pins s σ H x y v u Q I rx ry h => by
  obtain ⟨a, b, xs, ys, e1, e2, h1, h2, z, r⟩ := h
  exact op_catS pins s σ H x y v u Q I rx ry ⟨a, b, xs, ys, e1, e2, h1.any, h2.any, z, r⟩
inductive rLen0 (xs : List V) (H : Hp) (Q : VK) : Prop
  | mk (p : Addr) (ys : List V) (e : xs = [.ref p]) (s : SqL [] H p ys ∨ SqT [] H p ys) (q : Q (.int ys.length) H) : rLen0 xs H Q
theorem call0len : CallR X (.builtin "len") rLen0 := fun pins s σ H xs us Q I r h => by
  obtain ⟨p, ys, e, hq, q⟩ := h
  exact call_len_seq pins s σ H xs us Q I r ⟨p, ys, e, Sq.any hq, q⟩
noncomputable def XN : XK := fun _ _ _ => False
theorem passes0 {P : Program} {w : World} : Passes (CX1 P w) X XN := fun pins σ H s e s' I h => by
  obtain ⟨ea, Cc, d, H', rfl, os, bare, un, hok, _, hE⟩ := h
  exact hE.elim
end
end L2
set_option Elab.async false
set_option linter.all false
set_option maxRecDepth 100000
set_option maxHeartbeats 2000000
namespace L2
open PySem PySem.Spec PyProof.Rows
section
variable {X : Cx} {pins : List (Addr × Obj)} {σ : St} {H : Hp} {s : Shared}
inductive rList0 (xs : List V) (H : Hp) (Q : VK) : Prop
  | mk (p : Addr) (ys : List V) (e : xs = [.ref p]) (s : SqL [] H p ys ∨ SqT [] H p ys) (q : ∀ l, H l = none → Q (.ref l) (upd H l (.lst ys))) : rList0 xs H Q
theorem call0list : CallR X (.type "list") rList0 := fun pins s σ H xs us Q I r h => by
  obtain ⟨p, ys, e, hq, q⟩ := h
  exact call_list_of pins s σ H xs us Q I r ⟨p, ys, e, Sq.any hq, q⟩
end
end L2
set_option Elab.async false
set_option linter.all false
set_option maxRecDepth 100000
set_option maxHeartbeats 2000000
namespace L2
open PySem PySem.Spec PyProof.Rows
section
variable {prog : Program} {w : World} {A : Around} {E : Value → Shared → Prop} {s : Shared}
open AutoSeq1 (wpAny_loadPart') in
end
section
variable {X : Cx} {els : List Expr} {x1 : Nat} {tpos : Pos}
end
end L2
set_option linter.all false
set_option maxRecDepth 100000
namespace L2
open PySem PySem.Spec PyProof.Rows
section
variable {X : Cx}
end
end L2
set_option linter.all false
set_option maxRecDepth 100000
namespace L2
open PySem PySem.Spec PyProof.Rows
section
variable {prog : Program} {w : World} {A : Around} {E : Value → Shared → Prop} {s : Shared} {l : Addr} {xs : Array (Int × Tok)}
end
section
variable {X : Cx}
end
end L2
set_option Elab.async false
set_option linter.all false
set_option maxRecDepth 100000
set_option maxHeartbeats 2000000
namespace L2
open PySem PySem.Spec PyProof.Rows
section
variable {X : Cx} {pins : List (Addr × Obj)} {σ : St} {H : Hp} {s : Shared}
end
end L2
set_option Elab.async false
set_option linter.all false
set_option maxRecDepth 100000
set_option maxHeartbeats 2000000
namespace L2
open PySem PySem.Spec PyProof.Rows
noncomputable def StrIn (z' z : Str) : Prop := ∀ c ∈ z'.cps.toList, c ∈ z.cps.toList
noncomputable def cutS (z : Str) (lo hi : Option Int) : Str := if ((Builtin.Str.strSliceIndices lo hi 1 z.length).length == z.length) = true then z else ⟨((Builtin.Str.strSliceIndices lo hi 1 z.length).filterMap (z.cps[·]?)).toArray⟩
noncomputable def repS (z : Str) (n : Int) : Str := if n < 1 then Str.empty else if (n == 1 || z.length == 0) = true then z else ⟨(List.replicate n.toNat z.cps).foldl (· ++ ·) #[]⟩
section
variable {X : Cx}
inductive rSlS (x : V) (lo hi : Option Int) (H : Hp) (Q : VK) : Prop
  | mk (z : Str) (e : x = .str z) (hz : z.length ≤ sizeLine) (q : (cutS z lo hi).length ≤ z.length → StrIn (cutS z lo hi) z → Q (.str (cutS z lo hi)) H) : rSlS x lo hi H Q
theorem sl_str : SlR X rSlS := by
  intro pins s σ H x v vl vu lo hi sl Q I rx hs pl pu h
  obtain ⟨z, rfl, hz, q⟩ := h
  obtain ⟨t, rfl⟩ := rx
  refine ⟨"str", _, PySem.F.slot_str_getitem.lookup, typeIs_str s z t, ?_⟩
  have part : ∀ {v : Value} {p : Option Int}, IsPart v p → ∃ l : Option (Int × Tok), v = partValue l ∧ p = l.map (·.1) := by
    intro v p h
    cases h with
    | none => exact ⟨none, rfl, rfl⟩
    | int i t => exact ⟨some (i, t), rfl, rfl⟩
  obtain ⟨l, rfl, el⟩ := part pl
  obtain ⟨u, rfl, eu⟩ := part pu
  obtain ⟨o, ho, hc, hd⟩ := hs
  refine wpAny_getItem_str_slice (l := l) (u := u) (st := none) ⟨o, ho, hc, hd⟩ rfl ?_
  have ep : slicePicked z l u none = Builtin.Str.strSliceIndices lo hi 1 z.length := by unfold slicePicked; rw [el, eu]; rfl
  unfold sliceMade
  rw [ep]
  by_cases hw : ((Builtin.Str.strSliceIndices lo hi 1 z.length).length == z.length) = true
  · have ez : cutS z lo hi = z := if_pos hw
    rw [ez] at q
    rw [if_pos (by rw [hw]; rfl)]
    exact ⟨.str z, H, I, ⟨_, rfl⟩, q (Nat.le_refl _) fun _ h => h⟩
  · have ez : cutS z lo hi = ⟨((Builtin.Str.strSliceIndices lo hi 1 z.length).filterMap (z.cps[·]?)).toArray⟩ := if_neg hw
    rw [ez] at q
    rw [if_neg (by intro h; exact hw (by simpa using h))]
    have hl : (⟨((Builtin.Str.strSliceIndices lo hi 1 z.length).filterMap (z.cps[·]?)).toArray⟩ : Str).length ≤ z.length := by
      show (List.filterMap _ (Builtin.Str.strSliceIndices lo hi 1 z.length)).toArray.size ≤ z.length
      rw [List.size_toArray]
      exact Nat.le_trans (List.length_filterMap_le _ _) (indices_len_le _ _ z.length)
    refine ⟨Nat.le_trans hl hz, .str _, H, I.tok _, ⟨_, rfl⟩, q hl fun c hc => ?_⟩
    have hc : c ∈ ((Builtin.Str.strSliceIndices lo hi 1 z.length).filterMap (z.cps[·]?)).toArray.toList := hc
    obtain ⟨j, _, e⟩ := List.mem_filterMap.mp (by simpa using hc)
    exact Array.mem_toList_iff.mpr (Array.mem_of_getElem? e)
theorem rep_in (b : Array Nat) : ∀ (n : Nat) (a : Array Nat) (c : Nat), c ∈ ((List.replicate n b).foldl (· ++ ·) a).toList → c ∈ a.toList ∨ c ∈ b.toList
  | 0, a, c, h => .inl h
  | n + 1, a, c, h => by
    rw [List.replicate_succ, List.foldl_cons] at h
    rcases rep_in b n _ c h with z | z
    · rw [Array.toList_append] at z
      exact List.mem_append.mp z
    · exact .inr z
theorem rep_size (b : Array Nat) : ∀ (n : Nat) (a : Array Nat), ((List.replicate n b).foldl (· ++ ·) a).size = a.size + n * b.size
  | 0, a => by simp
  | n + 1, a => by
    rw [List.replicate_succ, List.foldl_cons, rep_size b n, Array.size_append, Nat.add_mul, Nat.one_mul]
    omega
inductive rRepS (x y : V) (H : Hp) (Q : VK) : Prop
  | mk (z : Str) (n : Int) (ex : x = .str z) (ey : y = .int n) (n0 : 0 ≤ n) (n1 : n ≤ 1000) (hz : z.length ≤ 1000) (q : (repS z n).length ≤ 1000 * 1000 → StrIn (repS z n) z → Q (.str (repS z n)) H) : rRepS x y H Q
theorem op_repS : OpR X (binaryOp .Mult) rRepS := by
  intro pins s σ H x y v u Q I rx ry h
  obtain ⟨z, n, rfl, rfl, n0, n1, hz, q⟩ := h
  obtain ⟨t, rfl⟩ := rx
  obtain ⟨t', rfl⟩ := ry
  have hmul : z.length * n.toNat ≤ 1000 * 1000 := Nat.mul_le_mul hz (by omega)
  have hline : (1000 * 1000 : Nat) ≤ sizeLine := by decide
  refine PySem.P.mul_str (by rw [decide_eq_false (by omega), decide_eq_false (by omega)]; rfl) (fun h1 _ => ?_) (fun _ _ => ?_) ?_
  · refine Int.not_lt.mpr (Int.le_ediv_of_mul_le (by omega) ?_)
    have : (z.length : Int) * n = ((z.length * n.toNat : Nat) : Int) := by rw [Int.natCast_mul]; congr 1; omega
    rw [this]
    omega
  · show decide (z.length * n.toNat > sizeLine) = false
    exact decide_eq_false (by omega)
  · unfold repS at q
    split
    · rename_i c1
      rw [if_pos c1] at q
      exact ⟨by decide, .str _, H, I.tok _, ⟨_, rfl⟩, q (by decide) fun _ h => nomatch h⟩
    · rename_i c1
      rw [if_neg c1] at q
      split
      · rename_i c2
        rw [if_pos c2] at q
        exact ⟨.str z, H, I, ⟨_, rfl⟩, q (by omega) fun _ h => h⟩
      · rename_i c2
        rw [if_neg c2] at q
        have hl : (⟨(List.replicate n.toNat z.cps).foldl (· ++ ·) #[]⟩ : Str).length ≤ 1000 * 1000 := by
          show ((List.replicate n.toNat z.cps).foldl (· ++ ·) #[]).size ≤ _
          rw [rep_size]
          have e : z.cps.size = z.length := rfl
          rw [e, Nat.mul_comm]
          simpa using hmul
        refine ⟨Nat.le_trans hl hline, .str _, H, I.tok _, ⟨_, rfl⟩, q hl fun c hc => ?_⟩
        rcases rep_in _ _ _ c hc with z | z
        · cases z
        · exact z
noncomputable def CMulC (i j : Int) : Prop := ∃ e : Nat, e ≤ 500000 ∧ i.natAbs < 2 ^ e ∧ j.natAbs < 2 ^ e
theorem bits_C {k : Int} {e : Nat} (he : e ≤ 500000) (hn : k.natAbs < 2 ^ e) : Builtin.Int.intBits k ≤ 2 ^ 20 := by
  unfold Builtin.Int.intBits
  split
  · decide
  · rename_i hz
    have hk : k.natAbs ≠ 0 := by
      intro z
      exact hz (by simpa using z)
    have := (Nat.log2_lt hk).mpr hn
    have h20 : (500001 : Nat) ≤ 2 ^ 20 := by decide
    omega
theorem op_mulC : OpR X (binaryOp .Mult) (rI CMulC fun i j => .int (i * j)) := opI fun _ _ _ _ _ _ _ hc q => by
  obtain ⟨e, he, h1, h2⟩ := hc
  exact mul_int q (IntMulOk.of_bits (bits_C he h1) (bits_C he h2))
noncomputable def CDivD (i j : Int) : Prop := 0 < j ∧ j.natAbs.log2 < 9000
theorem op_fdivD : OpR X (binaryOp .FloorDiv) (rI CDivD fun i j => .int (i / j)) := opI fun i j _ _ _ _ _ hc q => by
  have h1 : (0 : Int) < j := hc.1
  exact floordiv_int (by omega) (by rw [Int.fdiv_eq_ediv_of_nonneg i (by omega)]; exact q) (.inl (PyProof.noPylong_of_log2 hc.2))
end
end L2
set_option linter.all false
set_option maxRecDepth 100000
set_option Elab.async false
set_option linter.all false
set_option maxRecDepth 100000
namespace L2
open PySem PySem.Spec PyProof.Rows
end L2
namespace L2
open PySem PySem.Spec PyProof.Rows
section
variable (P : Program) (w : World)
end
section
variable {P : Program} {w : World} {H H' : Hp} {h h' : Heap} {a : Addr} {o : HO}
end
section
variable {P : Program} {w : World} {H : Hp} {h h' : Heap} {x e : Addr} {o' : HO}
end
section
variable {fs fs' ex ex' : List Addr} {H H1 H2 : Hp} {h h1 h2 h' : Heap} {a x e : Addr} {o : HO}
end
end L2
namespace L2
open PySem PySem.Spec PyProof.Rows
section
variable {X : Cx} {pins : List (Addr × Obj)} {σ : List (Option V)} {H H' : Hp} {s : Shared} {h' : Heap}
end
end L2
namespace L2
open PySem PySem.Spec PyProof.Rows
section
variable {X : Cx}
variable {a b : Expr} {ta tb : TE} {pos : Pos}
variable {tA tB' : TT} {rest : List Expr}
end
end L2
namespace L2
open PySem PySem.Spec PyProof.Rows
section
variable {X : Cx} {pins : List (Addr × Obj)} {σ : St} {H : Hp} {s : Shared} {a : Addr} {xs ys : List V}
end
section
variable {X : Cx} {pins : List (Addr × Obj)} {σ : St} {H : Hp} {s : Shared} {E : Value → Shared → Prop}
end
section
variable {X : Cx} {st : Stmt} {rest : List Stmt} {t u : TS} {e : Expr} {te : TE} {pos : Pos}
end
section
variable {X : Cx} {pos : Pos}
end
section
variable {X : Cx} {pos : Pos}
end
end L2
namespace L2
open PySem PySem.Spec PyProof.Rows
section
variable {X : Cx} {tg : Expr}
end
end L2
namespace L2
open PySem PySem.Spec PyProof.Rows
section
variable {X : Cx} {a b c : Expr} {ta tb tc : TE} {pos : Pos}
end
section
variable {X : Cx} {a b c : Expr} {ta tb tc : TE} {pos : Pos}
end
end L2
namespace L2
open PySem PySem.Spec PyProof.Rows
section
variable {prog : Program} {w : World} {A : Around} {E : Value → Shared → Prop} {s : Shared} {K : PySem.W.Frag} {x dx C f : Addr} {mA : Str → Option Value} {name : Str} {v : Value}
end
section
variable {P : Program} {w : World} {H H' : Hp} {h h' : Heap} {a C dx : Addr} {fs fs' : List (Str × V)}
end
section
variable {X : Cx} {pins : List (Addr × Obj)} {σ : St} {H : Hp} {s : Shared} {a C dx : Addr} {fs : List (Str × V)} {f : Str} {v : V} {A : Around} {E : Value → Shared → Prop}
end
section
variable {X : Cx} {o e value : Expr} {f : Str} {pos pos' tpos : Pos} {ta tv : TE}
end
section
variable {X : Cx} {pins : List (Addr × Obj)} {σ : St} {H : Hp} {s : Shared} {A : Around} {E : Value → Shared → Prop} {Q : Value → Shared → Prop} {c : Value} {b : Bool}
end
end L2
namespace L2
open PySem PySem.Spec PyProof.Rows
section
variable {X : Cx} {e : Expr} {es : List Expr} {te : TE} {t : TA} {pos : Pos}
end
section
variable {X : Cx} {pins : List (Addr × Obj)} {σ : St} {H : Hp} {s s' : Shared}
end
section
variable {X : Cx} {CX : CXT} {k : Nat} {f C : Addr} {fd : FuncData} {ps : List Str} {sp : Sp} {dvs : List V} {ds : List Value} {E : XK} {x m : Str} {p pos apos : Pos} {e o : Expr} {es : List Expr} {ta : TE} {t : TA}
end
section
variable {X : Cx} {CX : CXT} {k : Nat} {f C : Addr} {fd : FuncData} {ps ks : List Str} {sp : Sp} {E : XK} {x m : Str} {p pos apos kpos : Pos} {e o : Expr} {es : List Expr} {kws : List Keyword} {te ta : TE} {t tk : TA} {nm : Option Str}
variable {g : List Value → List Value → List Value} {gV : List V → List V → List V}
end
end L2
namespace L2
open PySem PySem.Spec PyProof.Rows
section
variable {X : Cx} {x : Str} {p pos : Pos} {e : Expr} {es : List Expr} {t : TA} {id T : String} {r : List V → Hp → VK → Prop}
end
end L2
namespace L2
open PySem PySem.Spec PyProof.Rows
section
variable {κ : Type} [DecidableEq κ]
noncomputable def valV (kvs : List (κ × V)) (k : κ) : Option V := (kvs.find? fun kv => decide (kv.1 = k)).map (·.2)
noncomputable def putK (kvs : List (κ × V)) (k : κ) (v : V) : List (κ × V) :=
  if (kvs.any fun kv => decide (kv.1 = k)) = true then kvs.map (fun kv => if kv.1 = k then (kv.1, v) else kv) else kvs ++ [(k, v)]
theorem valV_pos {p : κ × V} {r : List (κ × V)} {k : κ} (e : p.1 = k) : valV (p :: r) k = some p.2 := by simp [valV, List.find?_cons, e]
theorem valV_neg {p : κ × V} {r : List (κ × V)} {k : κ} (e : ¬ p.1 = k) : valV (p :: r) k = valV r k := by simp [valV, List.find?_cons, e]
theorem valV_any (k : κ) : ∀ kvs : List (κ × V), (kvs.any fun kv => decide (kv.1 = k)) = (valV kvs k).isSome
  | [] => rfl
  | p :: r => by
    rw [List.any_cons]
    by_cases e : p.1 = k
    · simp only [valV_pos e, decide_eq_true e, Bool.true_or, Option.isSome_some]
    · rw [valV_neg e, decide_eq_false e, Bool.false_or]; exact valV_any k r
theorem valV_map (k j : κ) (y : V) : ∀ kvs : List (κ × V), valV (kvs.map fun kv => if kv.1 = k then (kv.1, y) else kv) j = (valV kvs j).map fun x => if j = k then y else x
  | [] => rfl
  | p :: r => by
    have ih := valV_map k j y r
    rw [List.map_cons]
    by_cases h : p.1 = k
    · rw [if_pos h]
      by_cases e : p.1 = j
      · rw [valV_pos (p := (p.1, y)) e, valV_pos e, Option.map_some, if_pos (e.symm.trans h)]
      · rw [valV_neg (p := (p.1, y)) e, valV_neg e, ih]
    · rw [if_neg h]
      by_cases e : p.1 = j
      · rw [valV_pos (p := p) e, valV_pos e, Option.map_some, if_neg (fun z => h (e.trans z))]
      · rw [valV_neg (p := p) e, valV_neg e, ih]
theorem valV_snoc (k j : κ) (y : V) : ∀ kvs : List (κ × V), valV kvs k = none → valV (kvs ++ [(k, y)]) j = if j = k then some y else valV kvs j
  | [], _ => by
    by_cases e : k = j
    · rw [if_pos e.symm]; exact valV_pos (p := (k, y)) e
    · rw [if_neg (fun z => e z.symm)]; exact valV_neg (p := (k, y)) e
  | p :: r, hn => by
    rw [List.cons_append]
    have hk : ¬ p.1 = k := fun z => by rw [valV_pos z] at hn; cases hn
    rw [valV_neg hk] at hn
    have ih := valV_snoc k j y r hn
    by_cases e : p.1 = j
    · rw [valV_pos e, valV_pos e, if_neg (fun z => hk (e.trans z))]
    · rw [valV_neg e, valV_neg e, ih]
theorem valV_put (kvs : List (κ × V)) (k j : κ) (y : V) : valV (putK kvs k y) j = if j = k then some y else valV kvs j := by
  unfold putK
  by_cases a : (kvs.any fun kv => decide (kv.1 = k)) = true
  · rw [if_pos a, valV_map]
    rw [valV_any] at a
    by_cases e : j = k
    · obtain ⟨x, hx⟩ := Option.isSome_iff_exists.mp a
      rw [if_pos e, e, hx, Option.map_some, if_pos rfl]
    · rw [if_neg e]
      cases valV kvs j with
      | none => rfl
      | some x => rw [Option.map_some, if_neg e]
  · rw [if_neg a]
    refine valV_snoc k j y kvs ?_
    rw [valV_any] at a
    cases q : valV kvs k with
    | none => rfl
    | some x => rw [q] at a; exact (a rfl).elim
theorem length_putK (kvs : List (κ × V)) (k : κ) (v : V) : (putK kvs k v).length ≤ kvs.length + 1 := by
  unfold putK
  split
  · rw [List.length_map]; omega
  · rw [List.length_append, List.length_cons, List.length_nil]; omega
theorem RelO.isSome_eq {o : Option V} {u : Option Value} (r : RelO o u) : o.isSome = u.isSome := by
  cases o with
  | none => cases u with
    | none => rfl
    | some _ => exact (show False from r).elim
  | some _ => cases u with
    | none => exact (show False from r).elim
    | some _ => rfl
theorem KV.val {kvs : List (κ × V)} {vs : List (κ × Value)} (r : KV kvs vs) (k : κ) : RelO (valV kvs k) (valueAt vs k) := by
  unfold KV at r
  induction r with
  | nil => exact True.intro
  | @cons p q ps qs h t ih =>
    obtain ⟨h1, h2⟩ := h
    by_cases e : p.1 = k
    · have e' : q.1 = k := h1.symm.trans e
      have b : valueAt (q :: qs) k = some q.2 := by simp [valueAt, List.find?_cons, e']
      rw [valV_pos e, b]; exact h2
    · have e' : ¬ q.1 = k := fun z => e (h1.trans z)
      have b : valueAt (q :: qs) k = valueAt qs k := by simp [valueAt, List.find?_cons, e']
      rw [valV_neg e, b]; exact ih
theorem KV.any {kvs : List (κ × V)} {vs : List (κ × Value)} (r : KV kvs vs) (k : κ) : (kvs.any fun kv => decide (kv.1 = k)) = vs.any fun kv => decide (kv.1 = k) := by
  unfold KV at r
  induction r with
  | nil => rfl
  | cons h t ih => rw [List.any_cons, List.any_cons, ih, h.1]
theorem KV.repl {kvs : List (κ × V)} {vs : List (κ × Value)} (r : KV kvs vs) (k : κ) {y : V} {u : Value} (ry : RelV y u) :
    KV (kvs.map fun kv => if kv.1 = k then (kv.1, y) else kv) (vs.map fun kv => if kv.1 = k then (kv.1, u) else kv) := by
  unfold KV at r ⊢
  induction r with
  | nil => exact .nil
  | @cons p q ps qs h t ih =>
    rw [List.map_cons, List.map_cons]
    refine .cons ?_ ih
    obtain ⟨h1, h2⟩ := h
    by_cases e : p.1 = k
    · rw [if_pos e, if_pos (h1.symm.trans e)]; exact ⟨h1, ry⟩
    · rw [if_neg e, if_neg (fun z => e (h1.trans z))]; exact ⟨h1, h2⟩
theorem KV.put {kvs : List (κ × V)} {vs : List (κ × Value)} (r : KV kvs vs) (k : κ) {y : V} {u : Value} (ry : RelV y u) : KV (putK kvs k y) (stored vs k u) := by
  unfold putK stored
  rw [r.any k]
  by_cases e : (vs.any fun kv => decide (kv.1 = k)) = true
  · rw [if_pos e, if_pos e]; exact r.repl k ry
  · rw [if_neg e, if_neg e]; exact Paired.snoc r ⟨rfl, ry⟩
theorem KV.length {kvs : List (κ × V)} {vs : List (κ × Value)} (r : KV kvs vs) : kvs.length = vs.length := Paired.length r
end
theorem kV_is {P : Program} {w : World} {k : Key} {u : Value} (r : RelV (kV k) u) : (mixKind P w).is k u = true := by
  cases k with
  | inl i => obtain ⟨t, e⟩ := (show ∃ t, u = Value.int i t from r); subst e; exact mixKind_int P w i t
  | inr x => obtain ⟨t, e⟩ := (show ∃ t, u = Value.str x t from r); subst e; exact mixKind_str P w x t
theorem items_are {P : Program} {w : World} : ∀ {ks : List Key} {us : List Value}, Vals (ks.map kV) us → ItemsAre (mixKind P w) ks us
  | [], _, r => by rw [List.map_nil] at r; cases r; exact .nil
  | k :: ks, _, r => by
    rw [List.map_cons] at r
    cases r with
    | cons h t => exact .cons (kV_is h) (items_are t)
noncomputable abbrev KT (H : Hp) : List (List Key × V) → List (List Key × Addr × Value) → Prop := Paired fun p q => p.1 = q.1 ∧ H q.2.1 = some (.tup (p.1.map kV)) ∧ RelV p.2 q.2.2
theorem KT.val {H : Hp} {kvs : List (List Key × V)} {xs : List (List Key × Addr × Value)} (r : KT H kvs xs) (k : List Key) : RelO (valV kvs k) ((atKey xs k).map (·.2)) := by
  induction r with
  | nil => exact True.intro
  | @cons p q ps qs h t ih =>
    obtain ⟨h1, _, h2⟩ := h
    by_cases e : p.1 = k
    · have e' : q.1 = k := h1.symm.trans e
      have b : atKey (q :: qs) k = some q.2 := by simp [atKey, List.find?_cons, e']
      rw [valV_pos e, b]; exact h2
    · have e' : ¬ q.1 = k := fun z => e (h1.trans z)
      have b : atKey (q :: qs) k = atKey qs k := by simp [atKey, List.find?_cons, e']
      rw [valV_neg e, b]; exact ih
theorem KT.repl {H : Hp} {kvs : List (List Key × V)} {xs : List (List Key × Addr × Value)} (r : KT H kvs xs) (k : List Key) {y : V} {u : Value} (ry : RelV y u) :
    KT H (kvs.map fun kv => if kv.1 = k then (kv.1, y) else kv) (xs.map (putAt k u)) := by
  induction r with
  | nil => exact .nil
  | @cons p q ps qs h t ih =>
    rw [List.map_cons, List.map_cons]
    refine .cons ?_ ih
    obtain ⟨h1, h2, h3⟩ := h
    unfold putAt
    by_cases e : p.1 = k
    · rw [if_pos e, if_pos (h1.symm.trans e)]; exact ⟨h1, h2, ry⟩
    · rw [if_neg e, if_neg (fun z => e (h1.trans z))]; exact ⟨h1, h2, h3⟩
theorem KT.put {H : Hp} {kvs : List (List Key × V)} {xs : List (List Key × Addr × Value)} (r : KT H kvs xs) (k : List Key) {b : Addr} {y : V} {u : Value} (hb : H b = some (.tup (k.map kV))) (ry : RelV y u) :
    KT H (putK kvs k y) (storedH xs k b u) := by
  have e : (kvs.any fun kv => decide (kv.1 = k)) = (atKey xs k).isSome := by
    rw [valV_any, (r.val k).isSome_eq, Option.isSome_map]
  unfold putK storedH
  rw [e]
  by_cases q : (atKey xs k).isSome = true
  · rw [if_pos q, if_pos q]; exact r.repl k ry
  · rw [if_neg q, if_neg q]; exact Paired.snoc r ⟨rfl, hb, ry⟩
theorem KT.keeps {H H' : Hp} {kvs : List (List Key × V)} {xs : List (List Key × Addr × Value)} (r : KT H kvs xs) (ht : ∀ b ys, H b = some (.tup ys) → H' b = some (.tup ys)) : KT H' kvs xs :=
  Paired.mapP r fun _ _ z => ⟨z.1, ht _ _ z.2.1, z.2.2⟩
section
variable {P : Program} {w : World} {H : Hp} {h : Heap} {a : Addr}
theorem rd_of {u : HO} (ok : HOk P w H h) (e : Rd H a u) : ObjOk P w H h a u := e.ok ok
theorem dk_rd {kvs : List (Key × V)} (ok : HOk P w H h) (e : Rd H a (.dK kvs)) : kvs.length ≤ sizeLine ∧ (a == sysModules) = false ∧ ∃ vs, KV kvs vs ∧ h.DictOf (mixKind P w) a vs :=
  show ObjOk P w H h a (.dK kvs) from rd_of ok e
theorem dk_of {kvs : List (Key × V)} (ok : HOk P w H h) (e : H a = some (.dK kvs)) : kvs.length ≤ sizeLine ∧ (a == sysModules) = false ∧ ∃ vs, KV kvs vs ∧ h.DictOf (mixKind P w) a vs := dk_rd ok (.inl e)
theorem key_of {ks : List Key} (ok : HOk P w H h) (e : H a = some (.tup (ks.map kV))) : (tupleKind (mixKind P w)).is h ks a := by
  obtain ⟨_, its, r, o, h1, h2, n, h3⟩ := (show ObjOk P w H h a (.tup (ks.map kV)) from ok a _ e)
  exact ⟨o, its.toArray, n, h1, h2, h3, by simpa using items_are r⟩
theorem dt_rd {kvs : List (List Key × V)} (ok : HOk P w H h) (e : Rd H a (.dT kvs)) : kvs.length ≤ sizeLine ∧ (a == sysModules) = false ∧
    ∃ xs, KT H kvs xs ∧ h.DictOfH (tupleKind (mixKind P w)) a xs := by
  obtain ⟨z, y, xs, r, o, es, ep, h1, h2, h3, h4, h5⟩ := (show ObjOk P w H h a (.dT kvs) from rd_of ok e)
  refine ⟨z, y, xs, r, o, es, ep, h1, h2, h3, h4, fun x hx => ?_, h5⟩
  have all : ∀ {l : List (List Key × V)} {m : List (List Key × Addr × Value)}, KT H l m → ∀ x ∈ m, (tupleKind (mixKind P w)).is h x.1 x.2.1 := by
    intro l m q
    induction q with
    | nil => intro x hx; exact nomatch hx
    | @cons p q ps qs hq t ih =>
      intro x hx
      rcases List.mem_cons.mp hx with e | hx
      · subst e
        exact key_of ok (by rw [← hq.1]; exact hq.2.1)
      · exact ih x hx
  exact all r x hx
theorem dt_of {kvs : List (List Key × V)} (ok : HOk P w H h) (e : H a = some (.dT kvs)) : kvs.length ≤ sizeLine ∧ (a == sysModules) = false ∧
    ∃ xs, KT H kvs xs ∧ h.DictOfH (tupleKind (mixKind P w)) a xs := dt_rd ok (.inl e)
end
noncomputable def DGet (H : Hp) (a : Addr) (y : V) (r : Option V) : Prop :=
  (∃ kvs k, Rd H a (.dK kvs) ∧ y = kV k ∧ r = valV kvs k) ∨ ∃ kvs k b, Rd H a (.dT kvs) ∧ y = .ref b ∧ H b = some (.tup (k.map kV)) ∧ r = valV kvs k
noncomputable def DPut (H : Hp) (a : Addr) (y v : V) (H' : Hp) : Prop :=
  (∃ kvs k, H a = some (.dK kvs) ∧ y = kV k ∧ kvs.length < sizeLine ∧ H' = upd H a (.dK (putK kvs k v))) ∨
  ∃ kvs k b, H a = some (.dT kvs) ∧ y = .ref b ∧ H b = some (.tup (k.map kV)) ∧ kvs.length < sizeLine ∧ H' = upd H a (.dT (putK kvs k v))
theorem DGet.k {H : Hp} {a : Addr} {kvs : List (Key × V)} {k : Key} (e : H a = some (.dK kvs)) : DGet H a (kV k) (valV kvs k) := .inl ⟨kvs, k, .inl e, rfl, rfl⟩
theorem DPut.k {H : Hp} {a : Addr} {kvs : List (Key × V)} {k : Key} {v : V} (e : H a = some (.dK kvs)) (hl : kvs.length < sizeLine) : DPut H a (kV k) v (upd H a (.dK (putK kvs k v))) := .inl ⟨kvs, k, e, rfl, hl, rfl⟩
section
variable {X : Cx} {pins : List (Addr × Obj)} {σ : St} {H : Hp} {s : Shared} {a : Addr} {y v : V} {u r : Value} {o : Option V} {A : Around} {E : Value → Shared → Prop}
theorem Inv.big (I : Inv X pins σ H s) : sysModules < s.heap.objs.size := by
  have h : mainGlobals < s.heap.objs.size := (I.mod.glob.keeps I.bk).lt
  exact Nat.lt_trans (by decide) h
theorem d_getItem {Q : Value → Shared → Prop} (hu : A.units + 1 < cLine) (I : Inv X pins σ H s) (g : DGet H a y (some v)) (ry : RelV y u) (h : ∀ w' s', Inv X pins σ H s' → RelV v w' → Q w' s') :
    wpAny (model X.prog X.w) A (getItem (.ref a) u) Q E s := by
  rcases g with ⟨kvs, k, e, ey, l⟩ | ⟨kvs, k, b, e, ey, eb, l⟩
  · subst ey
    obtain ⟨z, hd, vs, rel, dd⟩ := dk_rd I.hok e
    obtain ⟨w', hw, rw'⟩ := RelO.some_of (v := v) (o := valueAt vs k) (by rw [l]; exact rel.val k)
    exact wpAny_getItem_of (kV_is ry) dd.mapOf hw (h w' _ (I.tok _) rw')
  · subst ey
    cases (show u = Value.ref b from ry)
    obtain ⟨z, hd, xs, rel, dd⟩ := dt_rd I.hok e
    obtain ⟨w', hw, rw'⟩ := RelO.some_of (v := v) (o := (atKey xs k).map (·.2)) (by rw [l]; exact rel.val k)
    obtain ⟨p, hp, hp2⟩ := Option.map_eq_some_iff.mp hw
    refine wpAny_getItem_heap (tupleKind_room_in1 hu) (key_of I.hok eb) dd hp ?_
    rw [hp2]
    exact h w' _ (I.tok _) rw'
theorem d_write {h' : Heap} {t' : Nat} {ob : HO} (I : Inv X pins σ H s) (mu : Mut (H a)) (hs : Heap.SameBut a s.heap h') (he : ∃ q, h'.get? a = some q) (new : ObjOk X.prog X.w (upd H a ob) h' a ob) :
    Inv X pins σ (upd H a ob) { s with heap := h', toks := t' } :=
  I.write (x := a) (e := a) mu (.inl rfl) (fun b q hb z => (hs.2 b hb).trans z) he new
theorem dk_new {P : Program} {w : World} {H' : Hp} {h' : Heap} {kvs : List (Key × V)} {vs : List (Key × Value)} (z : kvs.length ≤ sizeLine) (hd : (a == sysModules) = false) (rel : KV kvs vs) (dd : h'.DictOf (mixKind P w) a vs) :
    ObjOk P w H' h' a (.dK kvs) := ⟨z, hd, vs, rel, dd⟩
theorem d_setItem {H' : Hp} {Q : Unit → Shared → Prop} (hu : A.units + 1 < cLine) (I : Inv X pins σ H s) (g : DPut H a y v H') (ry : RelV y u) (rv : RelV v r) (h : ∀ s', Inv X pins σ H' s' → Q () s') :
    wpAny (model X.prog X.w) A (setItem (.ref a) u r) Q E s := by
  rcases g with ⟨kvs, k, e, ey, l, eH⟩ | ⟨kvs, k, b, e, ey, eb, l, eH⟩
  · subst ey eH
    obtain ⟨z, hd, vs, rel, dd⟩ := dk_of I.hok e
    have hz : vs.length ≤ sizeLine := by rw [← rel.length]; exact z
    have hl : (putK kvs k v).length ≤ sizeLine := by have := length_putK kvs k v; omega
    refine wpAny_setItem_pairs (hsz := hz) (kV_is ry) dd fun h' dd' hs => h _ ?_
    have he : ∃ q, h'.get? a = some q := let ⟨q, _, _, hq, _⟩ := dd'; ⟨q, hq⟩
    exact d_write I (by rw [e]; exact True.intro) hs he (dk_new hl hd (rel.put k rv) dd')
  · subst ey eH
    cases (show u = Value.ref b from ry)
    obtain ⟨z, hd, xs, rel, dd⟩ := dt_of I.hok e
    have hz : xs.length ≤ sizeLine := by rw [← Paired.length rel]; exact z
    have hl : (putK kvs k v).length ≤ sizeLine := by have := length_putK kvs k v; omega
    refine wpAny_setItem_heap (hsz := hz) (tupleKind_room_in1 hu) (key_of I.hok eb) dd fun h' dd' hs => h _ ?_
    obtain ⟨q, es, ep, hq, h2, h3, h4, _, h5⟩ := dd'
    refine d_write I (by rw [e]; exact True.intro) hs ⟨q, hq⟩ ⟨hl, hd, _, (rel.put k eb rv).keeps fun c ys ec => ?_, q, es, ep, hq, h2, h3, h4, h5⟩
    rw [upd_ne (ne_of ec e (fun z => nomatch z))]
    exact ec
end
section
variable {X : Cx} {pins : List (Addr × Obj)} {σ : St} {H : Hp} {s : Shared} {a : Addr} {kvs : List (Key × V)} {k : Key} {u : Value} {A : Around} {E : Value → Shared → Prop}
end
noncomputable def NoSl (i : Expr) : Prop := ∀ ov iv, subscripted i false ov iv = operate [ov, iv] (getItem ov iv)
theorem subD_of {prog : Program} {w : World} {A : Around} {E : Value → Shared → Prop} {s : Shared} {env : Env} {value slice : Expr} {pos : Pos} {T id : String} {Q : Value → Shared → Prop}
    (hl : typeLookup (.type T) "__getitem__" = pure (some (.builtin id))) (hs : NoSl slice)
    (h : wpAny (model prog w) A (eval value env) (fun o s₁ => wpAny (model prog w) A (eval slice env) (fun i s₂ => s₂.TypeIs o T ∧ wpAny (model prog w) A (getItem o i) Q E s₂) E s₁) E s) :
    wpAny (model prog w) A (eval (.Subscript value slice pos) env) Q E s := by
  refine Subscript_ (wpAny_mono h (fun o s₁ h₁ => wpAny_mono h₁ (fun i s₂ h₂ => ?_) fun _ _ x => x) fun _ _ x => x)
  obtain ⟨hT, h₂⟩ := h₂
  unfold subscriptTail
  refine wpAny_bind ?_
  rw [getitemInPython_of_ne hT.not_modules]
  refine wpAny_bind (wpAny_specialOf hT hl ?_)
  have fin : wpAny (model prog w) A (subscripted slice false o i) (fun r s₃ => wpAny (model prog w) A (letTemporaryGo value o r >>= fun _ => pure r) Q E s₃) E s₂ := by
    rw [hs o i]
    exact wpAny_operating (wpAny_mono h₂ (fun r s₃ h₃ => wpAny_bind (wpAny_letTemporaryGo (wpAny_pure h₃))) fun _ _ x => x)
  first
    | exact wpAny_pure (wpAny_bind fin)
    | exact wpAny_bind (wpAny_pure (wpAny_bind fin))
    | exact wpAny_bind fin
theorem dict_typeIs {X : Cx} {pins : List (Addr × Obj)} {σ : St} {H : Hp} {s : Shared} {a : Addr} {y : V} {o : Option V} (I : Inv X pins σ H s) (g : DGet H a y o) : s.TypeIs (.ref a) "dict" := by
  rcases g with ⟨kvs, k, e, _, _⟩ | ⟨kvs, k, b, e, _, _, _⟩
  · obtain ⟨_, _, vs, _, dd⟩ := dk_rd I.hok e
    exact dd.typeIs
  · obtain ⟨_, _, xs, _, dd⟩ := dt_rd I.hok e
    exact dd.typeIs
noncomputable def tDGet (td ty : TE) : TE := fun σ H Q => td σ H fun x H1 => ty σ H1 fun y H2 => ∃ a v, x = .ref a ∧ DGet H2 a y (some v) ∧ Q v H2
noncomputable def sDPut (td ty tv : TE) : TS := fun D σ H => tv σ H fun v H1 => td σ H1 fun x H2 => ty σ H2 fun y H3 => ∃ a H4, x = .ref a ∧ DPut H3 a y v H4 ∧ D.nx σ H4
section
variable {X : Cx} {o i e value : Expr} {pos pos' tpos : Pos} {td ty tv : TE}
theorem pe_dget (hu : X.A.units + 1 < cLine) (ho : PE X o td) (hi : PE X i ty) (hs : NoSl i) : PE X (.Subscript o i pos) (tDGet td ty) := by
  intro pins s σ H Q I h
  refine subD_of PySem.F.slot_dict_getitem.lookup hs (thn (ho pins s σ H _ I h) fun u s1 ⟨x, H1, I1, rx, q1⟩ => thn (hi pins s1 σ H1 _ I1 q1) fun iv s2 ⟨y, H2, I2, ry, a, v, ex, g, q2⟩ => ?_)
  subst ex
  obtain rfl : u = Value.ref a := rx
  exact ⟨dict_typeIs I2 g, d_getItem hu I2 g ry fun w' s3 I3 rw' => ⟨v, H2, I3, rw', q2⟩⟩
theorem ps_dput (hu : X.A.units + 1 < cLine) (ho : PE X o td) (hi : PE X i ty) (hv : PE X value tv) (hs : swapsWith value (some (.Subscript o i pos')) pos.line X.env = pure false) :
    PS X (.Assign [.Subscript o i pos'] value pos) (sDPut td ty tv) := by
  intro pins s σ H D I h
  refine wpAny_Assign_Subscript (thn (hv pins s σ H _ I h) fun r s1 ⟨v, H1, I1, rv, q1⟩ => thn (ho pins s1 σ H1 _ I1 q1) fun u s2 ⟨x, H2, I2, rx, q2⟩ => thn (hi pins s2 σ H2 _ I2 q2) fun iv s3 ⟨y, H3, I3, ry, a, H4, ex, g, q3⟩ => ?_) hs
  subst ex
  obtain rfl : u = Value.ref a := rx
  exact d_setItem hu I3 g ry rv fun s4 I4 => ⟨σ, H4, I4, q3⟩
end
theorem dk_empty {P : Program} {w : World} {H : Hp} (h : Heap) (hb : sysModules < h.objs.size) : ObjOk P w H (h.push { cls := .type "dict", data := .dict #[] }) h.objs.size (.dK []) :=
  ⟨Nat.zero_le _, beq_eq_false_iff_ne.mpr (Ne.symm (Nat.ne_of_lt hb)), [], .nil, Heap.DictOf.new h⟩
noncomputable def tDNewK : TE := fun _ H Q => ∀ p, H p = none → Q (.ref p) (upd H p (.dK []))
section
variable {X : Cx} {pos : Pos}
theorem pe_dnewK : PE X (.Dict [] [] pos) tDNewK := fun pins s σ H Q I h =>
  wpAny_Dict_empty ⟨.ref s.heap.objs.size, _, I.laid (a := s.heap.objs.size) (o := .dK []) (t' := s.toks) (fun _ _ q => Heap.get?_push_of_some _ q) (Nat.le_refl _) (dk_empty s.heap I.big), rfl, h _ (I.hok.fresh (Nat.le_refl _))⟩
end
noncomputable def mergeK (kvs more : List (Key × V)) : List (Key × V) := more.foldl (fun acc kv => putK acc kv.1 kv.2) kvs
theorem KV.merge : ∀ {more : List (Key × V)} {rs : List (Key × Value)} {kvs : List (Key × V)} {vs : List (Key × Value)}, KV more rs → KV kvs vs → KV (mergeK kvs more) (merged vs rs) := by
  intro more rs kvs vs r
  unfold KV at r
  induction r generalizing kvs vs with
  | nil => intro q; exact q
  | @cons p q ps qs h t ih =>
    intro r0
    have e : KV (putK kvs p.1 p.2) (stored vs q.1 q.2) := by
      have := r0.put p.1 h.2
      rw [← h.1]; exact this
    exact ih e
theorem length_mergeK : ∀ (more kvs : List (Key × V)), (mergeK kvs more).length ≤ kvs.length + more.length
  | [], kvs => by show kvs.length ≤ kvs.length + 0; omega
  | p :: r, kvs => by
    have h1 := length_mergeK r (putK kvs p.1 p.2)
    have h2 := length_putK kvs p.1 p.2
    show (mergeK (putK kvs p.1 p.2) r).length ≤ _
    rw [List.length_cons]; omega
section
variable {X : Cx} {pins : List (Addr × Obj)} {σ : St} {H : Hp} {s : Shared} {a : Addr} {y d : V} {u r : Value} {o : Option V} {A : Around} {E : Value → Shared → Prop}
end
section
variable {X : Cx} {o e f : Expr} {apos cpos : Pos} {td ty tx : TE}
end
section
variable {X : Cx} {pins : List (Addr × Obj)} {σ : St} {H : Hp} {s : Shared} {a : Addr} {kvs : List (Key × V)} {A : Around} {E : Value → Shared → Prop}
end
section
variable {X : Cx} {pins : List (Addr × Obj)} {σ : St} {H : Hp} {s : Shared} {a : Addr} {y : V} {u : Value} {A : Around} {E : Value → Shared → Prop}
end
end L2
namespace Att
open PySem PySem.W PySem.Calls PyProof.Rows
section
variable {prog : Program} {w : World} {A : Around} {E : Value → Shared → Prop} {s : Shared} {K : Frag}
end
end Att
namespace L2
open PySem PySem.Spec PyProof.Rows
end L2
namespace L2
open PySem PySem.Spec PyProof.Rows
end L2
namespace L2
open PySem PySem.Spec PyProof.Rows
section
variable {P : Program} {w : World} {K : PySem.W.Frag} {mg : Str → Option Value} {base : Heap}
end
section
variable {X : Cx}
end
section
variable {κ : Type} [DecidableEq κ]
end
end L2
set_option Elab.async false
set_option linter.all false
set_option maxRecDepth 100000
set_option maxHeartbeats 2000000
namespace L2
open PySem PySem.Spec PyProof.Rows
section
variable {X : Cx}
end
end L2
set_option Elab.async false
set_option linter.all false
set_option maxRecDepth 100000
set_option maxHeartbeats 2000000
namespace L2
open PySem PySem.Spec PyProof.Rows Builtin Builtin.ObjectAttr
section
variable {prog : Program} {w : World} {A : Around} {E : Value → Shared → Prop} {h : Heap} {g : Array GenState} {d : Drawn} {t : Nat} {os : OsState}
variable {nm q : Str} {C N : Addr} {bs bm bmB : List Value} {hdct : Bool} {sn : List Str} {sub : List Value} {ab : Bool} {col : Option Bool} {dd : Option Addr} {k0 k1 k2 k3 k5 : Option Value} {B newId initId : String}
noncomputable abbrev argT (us : List Value) : Obj := { cls := .type "tuple", data := .seq us.toArray }
noncomputable abbrev excO (C t : Addr) : Obj := { cls := .ref C, data := .fields #[.ref t, .none, .none, .none, .bool false, .none] }
theorem type_call_initT (F : ExcBaseFacts B newId initId bmB) (T : OwnTail h bmB bm) {mN : Str → Option Value} {rest : List Value} {fI : Addr} {oI : Obj} {Q : Fin → Shared → Prop}
    (hC : h.get? C = some (excClassObj nm q C N bs bm hdct sn sub ab col dd k0 k1 k2 k3 k5 newId)) (hn : h.Ns N mN) (hi : mN "__init__" = some (.ref fI)) (hfI : h.get? fI = some oI) (hfc : oI.cls = .type "function") (hrest : rest.length ≤ sizeLine)
    (hq : wpAny (model prog w) A (call (.ref fI) (.ref (h.objs.size + 1) :: rest)) (fun r s' => r = .none ∧ Q (.done (.ret (.ref (h.objs.size + 1)))) s') E ⟨(h.push (argT rest)).push (excO C h.objs.size), g, d, t, os⟩) :
    wpAny (model prog w) A (Builtin.«type.__call__» ⟨.ref C :: rest, []⟩) Q E ⟨h, g, d, t, os⟩ := by
  repeat (first | with_reducible refine wpAny_loadPart_at hC ?_ | with_reducible refine wpAny_madeBy_exc hC ?_ | wp_step)
  refine codeAny_call_builtin_code (Code.quiet_builtin _ F.quiet) (wpAny_check_new_subT F T hC ?_)
  refine codeAny_exc_new_subT F T hC ?_ hrest
  show wpAny _ _ _ _ _ _
  have kp : ∀ b o, h.get? b = some o → ((h.push { cls := .type "tuple", data := .seq rest.toArray }).push { cls := .ref C, data := .fields #[.ref h.objs.size, .none, .none, .none, .bool false, .none] }).get? b = some o := fun b o e => Heap.get?_push_of_some _ (Heap.get?_push_of_some _ e)
  have hC₁ := kp _ _ hC
  have hfI₁ := kp _ _ hfI
  have hn₁ : ((h.push { cls := .type "tuple", data := .seq rest.toArray }).push { cls := .ref C, data := .fields #[.ref h.objs.size, .none, .none, .none, .bool false, .none] }).Ns N mN := let ⟨o, es, ep, e, r⟩ := hn; ⟨o, es, ep, kp _ _ e, r⟩
  have hget : ((h.push { cls := .type "tuple", data := .seq rest.toArray }).push { cls := .ref C, data := .fields #[.ref h.objs.size, .none, .none, .none, .bool false, .none] }).get? (h.objs.size + 1) = some { cls := .ref C, data := .fields #[.ref h.objs.size, .none, .none, .none, .bool false, .none] } := by heap_get
  have hcC : (Value.ref C :: bm).contains (.ref C) = true := by simp
  unfold isInstance
  repeat (first | with_reducible refine wpAny_loadPart_at hget ?_ | (with_reducible refine wpAny_isSubtype_exc hC₁ ?_; rw [hcC]) | wp_step)
  show wpAny _ _ (typeLookup (.ref C) _) _ _ _
  refine wpAny_typeLookup_tail hC₁ hn₁ (T.keeps kp) F.mroIs F.init.lookup ?_
  rw [hi]
  refine wpAny_holding (wpAny_bind ?_)
  unfold bindSpecial
  refine wpAny_bind (wpAny_typeOf (T := "function") ⟨_, hfI₁, hfc⟩ ?_)
  rw [if_pos (by decide)]
  refine wpAny_pure (wpAny_bind (wpAny_mono hq (fun r s' hr => ?_) fun _ _ x => x))
  obtain ⟨rfl, hQ⟩ := hr
  wp_walk
  exact hQ
theorem call_exc_initT (F : ExcBaseFacts B newId initId bmB) (T : OwnTail h bmB bm) {mN : Str → Option Value} {rest : List Value} {fI : Addr} {oI : Obj} {Q : Value → Shared → Prop}
    (hC : h.get? C = some (excClassObj nm q C N bs bm hdct sn sub ab col dd k0 k1 k2 k3 k5 newId)) (hn : h.Ns N mN) (hi : mN "__init__" = some (.ref fI)) (hfI : h.get? fI = some oI) (hfc : oI.cls = .type "function") (hrest : rest.length ≤ sizeLine)
    (hq : wpAny (model prog w) (A.under (.builtin "type.__call__" ⟨.ref C :: rest, []⟩)) (call (.ref fI) (.ref (h.objs.size + 1) :: rest)) (fun r s' => r = .none ∧ Q (.ref (h.objs.size + 1)) s') E ⟨(h.push (argT rest)).push (excO C h.objs.size), g, d, t, os⟩) :
    wpAny (model prog w) A (call (.ref C) rest) Q E ⟨h, g, d, t, os⟩ := by
  have f1 := tc_lookup
  have f2 := tc_bind (.ref C)
  have hT : (⟨h, g, d, t, os⟩ : Shared).TypeIs (.ref C) "type" := ⟨_, hC, rfl⟩
  refine wpAny_call (codeAny_of_tree ?_)
  show wpAny _ _ (callAny (.ref C) _) _ _ _
  repeat (any_goals (first | assumption | with_reducible refine wpAny_loadPart_at hC ?_ | wp_step))
  refine ⟨rfl, ?_⟩
  exact codeAny_call_builtin_at (Code.quiet_builtin _ (by decide +kernel)) entry_typeCall (wpAny_check_type_call_sub hC (type_call_initT F T hC hn hi hfI hfc hrest hq))
end
section
variable {M : Model} {A : Around} {E : Value → Shared → Prop} {s : Shared} {env : Env}
variable {nm q : Str} {C N : Addr} {bs bm : List Value} {hdct : Bool} {sn : List Str} {sub : List Value} {ab : Bool} {col : Option Bool} {dd : Option Addr} {k0 k1 k2 k3 k5 : Option Value} {newId : String}
theorem raise_exc {x : Sem Value} {Q : Flow → Shared → Prop} (hbase : bm.contains (.type "BaseException") = true) (hh : A.handled = none)
    (h : wpAny M A x (fun v s₁ => ∃ e oe vs, v = .ref e ∧ s₁.heap.get? C = some (excClassObj nm q C N bs bm hdct sn sub ab col dd k0 k1 k2 k3 k5 newId) ∧ s₁.heap.get? e = some oe ∧ oe.cls = .ref C ∧ oe.data = .fields vs ∧ vs[1]? = some .none ∧ E (.ref e) s₁) E s) :
    wpAny M A (raiseStmt env (some x) none) Q E s := by
  have hcB : (Value.ref C :: bm).contains (.type "BaseException") = true := by rw [List.contains_cons, hbase, Bool.or_true]
  unfold raiseStmt
  refine wpAny_bind (wpAny_mono h (fun v s₁ h₁ => ?_) fun _ _ x => x)
  obtain ⟨e, oe, vs, rfl, hC, he, hcl, hd, h1, hE⟩ := h₁
  obtain ⟨hp, g, d, tk, os⟩ := s₁
  obtain ⟨oc, od, oda, osl⟩ := oe
  dsimp only at hcl hd he hE
  subst hcl hd
  repeat (first | with_reducible refine wpAny_loadPart_at he ?_ | with_reducible refine wpAny_loadPart_at hC ?_ | (with_reducible refine wpAny_isSubtype_exc hC ?_; rw [hcB]) | wp_step)
  rw [h1]
  refine wpAny_pure ?_
  rw [if_neg (by decide)]
  exact wpAny_pure (wpAny_raiseNew_none hh hE)
end
section
variable {prog : Program} {w : World} {A : Around} {E : Value → Shared → Prop} {s : Shared} {env : Env}
variable {nm q : Str} {C N : Addr} {bs bm bmB : List Value} {hdct : Bool} {sn : List Str} {sub : List Value} {ab : Bool} {col : Option Bool} {dd : Option Addr} {k0 k1 k2 k3 k5 : Option Value} {B newId initId : String}
theorem Raise_initT (F : ExcBaseFacts B newId initId bmB) {mN : Str → Option Value} {x : Str} {np cpos pos : Pos} {args : List Expr} {fI : Addr} {oI : Obj} {Q : Flow → Shared → Prop}
    (hbase : bm.contains (.type "BaseException") = true) (hh : A.handled = none) (hplain : (backTo cpos (starEach args env)).any (·.1) = false) (hi : mN "__init__" = some (.ref fI)) (hfc : oI.cls = .type "function")
    (h : wpAny (model prog w) A (eval (.Name x np) env) (fun f s₁ => f = .ref C ∧ wpAny (model prog w) A (evalArgs (.ref C) true (backTo cpos (starEach args env)) [])
      (fun a s₂ => a.kw = [] ∧ a.pos.length ≤ sizeLine ∧ s₂.heap.get? C = some (excClassObj nm q C N bs bm hdct sn sub ab col dd k0 k1 k2 k3 k5 newId) ∧ s₂.heap.Ns N mN ∧ OwnTail s₂.heap bmB bm ∧ s₂.heap.get? fI = some oI ∧
        wpAny (model prog w) (A.under (.builtin "type.__call__" ⟨.ref C :: a.pos, []⟩)) (call (.ref fI) (.ref (s₂.heap.objs.size + 1) :: a.pos))
          (fun r s' => r = .none ∧ ∃ oe vs, s'.heap.get? C = some (excClassObj nm q C N bs bm hdct sn sub ab col dd k0 k1 k2 k3 k5 newId) ∧ s'.heap.get? (s₂.heap.objs.size + 1) = some oe ∧ oe.cls = .ref C ∧ oe.data = .fields vs ∧ vs[1]? = some .none ∧ E (.ref (s₂.heap.objs.size + 1)) s') E
          { s₂ with heap := (s₂.heap.push (argT a.pos)).push (excO C s₂.heap.objs.size) }) E s₁) E s) :
    wpAny (model prog w) A (exec (.Raise (some (.Call (.Name x np) args [] cpos)) none pos) env) Q E s := by
  rw [arm_exec_Raise]
  refine wpAny_bind (wpAny_standAt (raise_exc (C := C) (nm := nm) (q := q) (N := N) (bs := bs) (bm := bm) (hdct := hdct) (sn := sn) (sub := sub) (ab := ab) (col := col) (dd := dd) (k0 := k0) (k1 := k1) (k2 := k2) (k3 := k3) (k5 := k5) (newId := newId) hbase hh ?_))
  refine wpAny_bind (wpAny_mono (wpAny_Call_ofName (wpAny_mono h (fun f s₁ h₁ => ?_) fun _ _ x => x)) (fun v s₃ h₃ => wpAny_bind (wpAny_standAt (wpAny_pure h₃))) fun _ _ x => x)
  obtain ⟨rfl, h₁⟩ := h₁
  unfold callWith
  refine wpAny_bind (wpAny_holding (wpAny_mono h₁ (fun a s₂ h₂ => wpAny_bind (wpAny_standAt ?_)) fun _ _ x => x))
  obtain ⟨apos, akw⟩ := a
  obtain ⟨hkw, hlen, hC, hn, T, hfI, h₂⟩ := h₂
  obtain rfl : akw = [] := hkw
  obtain ⟨hp, g, d, tk, os⟩ := s₂
  simp only [hplain]
  refine wpAny_bind (wpAny_keeperOf_exc hC ?_)
  refine wpAny_bind (call_exc_initT F T hC hn hi hfI hfc hlen (wpAny_mono h₂ (fun r s' hr => ?_) fun _ _ x => x))
  obtain ⟨rfl, oe, vs, c1, c2, c3, c4, c5, c6⟩ := hr
  exact ⟨rfl, wpAny_bind (wpAny_holding (wpAny_point (wpAny_pure ⟨_, oe, vs, rfl, c1, c2, c3, c4, c5, c6⟩)))⟩
end
noncomputable def excInI (K : PySem.W.Frag) (C fI : Addr) (bmB : List Value) (newId : String) : Bool := match K.lookup C with
  | some ⟨.type "type", _, .cls cd, sl⟩ => (match cd.mro, sl.toList with
    | .ref C' :: bm, [_, _, _, _, some (.builtin n), _] => C' == C && n == newId && !cd.hasDel && PySem.W.tailIn K bmB bm && PySem.W.nsOkIn K cd.ns && PySem.W.nsIn K cd.ns "__init__" == some (some (.ref fI))
    | _, _ => false)
  | _ => false
theorem ns_some_of {K : PySem.W.Frag} {h : Heap} {N : Addr} {mg : Str → Option Value} {n : Str} {v : Value} (X : K.In h) (G : h.Ns N mg) (e : PySem.W.nsIn K N n = some (some v)) : mg n = some v := by
  obtain ⟨o, es, ep, ho, hd, _, hf⟩ := G
  unfold PySem.W.nsIn at e
  split at e
  · rename_i c d es' n' sl q
    have := X _ _ q
    rw [ho] at this
    cases this
    cases hd
    split at e
    · rename_i en he
      cases e
      rw [← hf]
      unfold nsFind findBy
      rw [← Array.find?_toList, he]
      rfl
    · split at e <;> cases e
  · cases e
theorem exc_objI {K : PySem.W.Frag} {h : Heap} {C fI : Addr} {bmB : List Value} {newId : String} (X : K.In h) (q : excInI K C fI bmB newId = true) :
    ∃ bm N nm qn bs hdct sn sub ab col dd k0 k1 k2 k3 k5 mN, h.get? C = some (excClassObj nm qn C N bs bm hdct sn sub ab col dd k0 k1 k2 k3 k5 newId) ∧ h.Ns N mN ∧ mN "__init__" = some (.ref fI) ∧ OwnTail h bmB bm := by
  unfold excInI at q
  split at q
  next dd cd sl ho =>
    split at q
    next C' bm k0 k1 k2 k3 n k5 hm hs =>
      simp only [Bool.and_eq_true, beq_iff_eq, Bool.not_eq_true'] at q
      obtain ⟨⟨⟨⟨⟨e1, e2⟩, hdel⟩, ht⟩, hok⟩, hni⟩ := q
      subst e1; subst e2
      obtain ⟨nm, bs, mro, ns, qn, hd, sn, sub, ab, col, del⟩ := cd
      dsimp only at hm hdel hok hni
      subst hm hdel
      obtain rfl : sl = #[k0, k1, k2, k3, some (.builtin n), k5] := by
        cases sl with
        | mk l => exact congrArg Array.mk hs
      have hns : h.Ns ns (h.nsMap ns) := .of_isNs (PySem.W.isNs_of_in X hok)
      exact ⟨bm, ns, nm, qn, bs, hd, sn, sub, ab, col, dd, k0, k1, k2, k3, k5, _, X _ _ ho, hns, ns_some_of X hns hni, PySem.W.tail_of_in X ht⟩
    next => cases q
  next => cases q
structure ExcF (K : PySem.W.Frag) (C : Addr) (f : Str) : Prop where
  c : ExcC K C
  sa : PySem.W.findIn K (.ref C) "__setattr__" = some (some (.builtin "object.__setattr__"))
  na : PySem.W.findIn K (.ref C) f = some none
  hd : PySem.W.hasDictIn K C = true
  mr : ∃ R, ((PySem.W.clsIn K C).any fun cd => cd.mro == .ref C :: .ref R :: bmV) = true
section
variable {prog : Program} {w : World} {A : Around} {E : Value → Shared → Prop} {s : Shared} {K : PySem.W.Frag} {ea C : Addr} {ox : Obj} {od : Option Obj} {name : Str}
theorem exc_getv {expr : Bool} {v : Value} {Q : Value → Shared → Prop} (G : ExcC K C) (X : K.In s.heap) (J : PySem.W.InstAt s.heap ea ox C od) (hf : PySem.W.findObj K C od name = some (.value v)) (hv : PySem.W.handedIn v = true)
    (h : Q v { s with toks := s.toks + 1 }) : wpAny (model prog w) A (getAttr (.ref ea) name expr) Q E s := by
  obtain ⟨hh, g, d, t, os⟩ := s
  have L0 : PySem.W.Looks (model prog w) hh (typeOf (.ref ea)) (.ref C) := J.type
  have L1 := PySem.W.looks_findIn (M := model prog w) X G.ga
  have L2 := PySem.W.looks_findIn (M := model prog w) X G.gt
  have L4 := PySem.W.looks_find (M := model prog w) X J hf
  unfold getAttr getAttrBy
  refine wpAny_bind (wpAny_mkText (wpAny_holding (wpAny_bind (L0.at (wpAny_bind (L1.at ?_))))))
  show wpAny _ _ (getAttrByItsOwn _ _ _ _ _ _) _ _ _
  unfold getAttrByItsOwn
  refine wpAny_bind ?_
  show wpAny _ _ (typeLookup (.ref C) "__getattr__") _ _ _
  refine L2.at ?_
  refine wpAny_bind (wpAny_attempt (wpAny_holding ?_))
  have eb : callGetattribute (.ref ea) (.str name t) (.builtin "BaseException.__getattribute__") expr = boundAndCalled (.builtin "BaseException.__getattribute__") (.ref ea) (.str name t) := by cases expr <;> rfl
  rw [eb]
  unfold boundAndCalled
  refine wpAny_bind (wpAny_of_eq (a := (Value.builtin "BaseException.__getattribute__", [Value.ref ea])) bind_ga ?_)
  refine wpAny_call (codeAny_call_builtin plain_ga F.entry_bexc_ga ?_)
  have hk : builtinKind "BaseException.__getattribute__" = some .slot := by decide +kernel
  have hs : splitId "BaseException.__getattribute__" = some ("BaseException", "__getattribute__") := by decide +kernel
  have L5 : PySem.W.Looks (model prog w) hh (isInstance (.ref ea) (.type "BaseException")) true := L0.andThen (PySem.W.looks_mroIn X G.mb)
  have ha := F.args_bexc_ga (.ref ea) (.str name t)
  simp only [checkBuiltinCall, hk, hs]
  refine wpAny_bind (L5.at ?_)
  rw [if_neg (by decide)]
  refine wpAny_of_eq (a := ()) ha ?_
  refine wpAny_bind (wpAny_pure (wpAny_bind (wpAny_pure (wpAny_bind (L0.at (wpAny_bind (L4.at ?_)))))))
  refine wpAny_pure ?_
  show wpAny _ _ (handedOut v) _ _ _
  rw [PySem.W.handedOut_of hv]
  exact wpAny_pure h
theorem exc_setv {v : Value} {Q : Unit → Shared → Prop} (G : ExcF K C name) (X : K.In s.heap) (hx : s.heap.get? ea = some ox) (hc : ox.cls = .ref C) (hn : PySem.W.notCls ox = true) (hd0 : ox.dict = none)
    (h : ∀ h', h'.get? ea = some { ox with dict := some s.heap.objs.size } → h'.Ns1 s.heap.objs.size (fun y => if y = name then some v else none) → (∀ b o, b ≠ ea → s.heap.get? b = some o → h'.get? b = some o) → Q () { s with heap := h', toks := s.toks + 2 }) :
    wpAny (model prog w) A (setAttr (.ref ea) name v) Q E s := by
  have J : PySem.W.InstAt s.heap ea ox C none := ⟨hx, hc, hn, by rw [hd0]; exact True.intro⟩
  obtain ⟨R, hm⟩ := G.mr
  obtain ⟨cd, hcd, ho⟩ := PySem.W.any_some hm
  have hh := G.hd
  obtain ⟨cd', hcd', hdd⟩ := PySem.W.any_some hh
  rw [hcd] at hcd'; cases hcd'
  have ho : cd.mro = .ref C :: .ref R :: bmV := eq_of_beq ho
  have SF := PySem.F.store_object
  refine PySem.W.set_plain X J G.sa ?_
  have sub : PySem.W.Looks (model prog w) s.heap (isInstance (.ref ea) (.type "object")) true := J.type.andThen (PySem.W.looks_mroIn X G.c.mo)
  refine codeAny_call_builtin SF.slot.plain SF.entry (@PySem.W.check_slot (model prog w) _ _ { s with toks := s.toks + 1 } "object.__setattr__" "object" "__setattr__" (.ref ea) [.str name s.toks, v] [] _ SF.kind SF.split sub (SF.args (.ref ea) (.str name s.toks) v) ?_)
  have L2 : PySem.W.Looks (model prog w) s.heap (mroOf (.ref C)) cd.mro := (PySem.W.looks_clsIn X hcd).andThen .now
  have L3 : PySem.W.Looks (model prog w) s.heap (storeTaker? none) none := .now
  have L4 : PySem.W.Looks (model prog w) s.heap (classData C) cd := PySem.W.looks_clsIn X hcd
  rw [PySem.W.osa_eq, refuse_eq]
  refine wpAny_bind (wpAny_bind (PySem.W.Looks.here (s := { s with toks := s.toks + 1 }) J.type (wpAny_bind (PySem.W.Looks.here (s := { s with toks := s.toks + 1 }) L2 ?_))))
  rw [ho, refuseLoop_ref, refuseLoop_ref, PySem.F.store_ValueError.passes]
  refine wpAny_pure (wpAny_bind (PySem.W.Looks.here (s := { s with toks := s.toks + 1 }) J.type (wpAny_bind (PySem.W.Looks.here (s := { s with toks := s.toks + 1 }) (PySem.W.looks_findIn X G.na) (wpAny_bind (PySem.W.Looks.here (s := { s with toks := s.toks + 1 }) L3 ?_))))))
  obtain ⟨oc, odi, oda, osl⟩ := ox
  have hc : oc = .ref C := hc
  have hd0 : odi = none := hd0
  subst hc hd0
  refine wpAny_bind (wpAny_pure (wpAny_bind (wpAny_bind (wpAny_loadPart hx (wpAny_bind (PySem.W.Looks.here (s := { s with toks := s.toks + 1 }) L4 ?_))))))
  rw [hdd]
  have hx₁ : (s.heap.push { cls := .type "dict", data := .dict #[] }).get? ea = some ⟨.ref C, none, oda, osl⟩ := Heap.get?_push_of_some _ hx
  have hxs : ea ≠ s.heap.objs.size := Nat.ne_of_lt (Heap.lt_size hx)
  have go : ∀ (QF : PySem.Fin → Shared → Prop) (E' : Value → Shared → Prop) (b : Bool), (∀ s', Q () s' → QF (.done (.ret .none)) s') → wpAny (model prog w) A.in1 (do
      let d ← alloc { cls := .type "dict", data := .dict #[] }
      update ea fun o => { o with dict := some d }
      dictMade (.ref C) ea d) (fun r s' => wpAny (model prog w) A.in1 (match r with | some d => storeInDict d (.str name s.toks) name v | none => noDictFor (.ref ea) (.ref C) name b) QF E' s') E' { s with toks := s.toks + 1 } := by
    intro QF E' b hQF
    refine wpAny_bind (wpAny_alloc (wpAny_bind (wpAny_update hx₁ (wpAny_pure ?_))))
    have hgd : ((s.heap.push { cls := .type "dict", data := .dict #[] }).update ea fun o => { o with dict := some s.heap.objs.size }).get? s.heap.objs.size = some { cls := .type "dict", data := .dict #[] } :=
      (Heap.get?_update_ne _ _ _ _ hxs.symm).trans (Heap.get?_push_at rfl rfl)
    have hnd : ((s.heap.push { cls := .type "dict", data := .dict #[] }).update ea fun o => { o with dict := some s.heap.objs.size }).Ns s.heap.objs.size (fun _ => none) := ⟨_, #[], _, hgd, rfl, fun e he => absurd he (by simp), fun _ => rfl⟩
    show wpAny _ _ (storeInDict s.heap.objs.size (.str name s.toks) name v) _ _ _
    unfold storeInDict newKeyGuard
    refine wpAny_bind (wpAny_pure (wpAny_bind (wpAny_nsSet1 (Heap.Ns1.of_empty hnd) fun h' hn' hs => ?_)))
    obtain ⟨oD, esD, epD, hoD, hdD, hcD⟩ := hn'.count (PySem.Within.cons name v PySem.Within.nil)
    refine wpAny_bind (wpAny_lookBehind hoD (by rw [hdD]; exact pastItsLine_dict (Nat.le_trans hcD (by rw [List.length_cons, List.length_nil, sizeLine_eq]; omega))) ?_)
    refine wpAny_pure (hQF _ (h h' ?_ hn' fun b o hb e => ?_))
    · refine (hs.2 ea hxs).trans (Heap.get?_update_self _ hx₁ ?_)
      have hfr := (Heap.get?_some_iff.mp hx).2
      cases oda <;> first | rfl | exact hfr
    · exact (hs.2 b (Nat.ne_of_lt (Heap.lt_size e))).trans ((Heap.get?_update_ne _ _ _ _ hb).trans (Heap.get?_push_of_some _ e))
  cases oda <;> first | exact go _ _ _ (fun _ z => z) | cases hn
end
noncomputable def exNew (a C : Addr) : Heap → Prop := fun h => ∃ o vs a0, h.get? a = some o ∧ o.cls = .ref C ∧ o.dict = none ∧ o.data = .fields vs ∧ vs[0]? = some a0 ∧ vs[1]? = some .none
noncomputable def exSet (a C d : Addr) : Heap → Prop := fun h => ∃ o vs a0, h.get? a = some o ∧ o.cls = .ref C ∧ o.dict = some d ∧ o.data = .fields vs ∧ vs[0]? = some a0 ∧ vs[1]? = some .none
theorem exNew_keep {a C : Addr} : ∀ h1 h2 : Heap, exNew a C h1 → (∀ o, h1.get? a = some o → h2.get? a = some o) → exNew a C h2 := fun _ _ ⟨o, vs, a0, e, r⟩ k => ⟨o, vs, a0, k o e, r⟩
theorem exSet_keep {a C d : Addr} : ∀ h1 h2 : Heap, exSet a C d h1 → (∀ o, h1.get? a = some o → h2.get? a = some o) → exSet a C d h2 := fun _ _ ⟨o, vs, a0, e, r⟩ k => ⟨o, vs, a0, k o e, r⟩
theorem relo_one {f : Str} {y : V} {u : Value} (r : RelV y u) (g : Str) : RelO (([(f, y)] : List (Str × V)).lookup g) (if g = f then some u else none) := by
  by_cases e : g = f
  · subst e; rw [if_pos rfl, List.lookup_cons_self]; exact r
  · rw [if_neg e, List.lookup_cons, show (g == f) = false from beq_eq_false_iff_ne.mpr e]; exact True.intro
section
variable {X : Cx} {pins : List (Addr × Obj)} {σ : St} {H : Hp} {s : Shared}
noncomputable def hide1 (H : Hp) (a : Addr) : Hp := fun b => if b = a then none else H b
theorem Inv.untrack {a : Addr} {φ : Heap → Prop} (I : Inv X pins σ H s) (e : H a = some (.ext φ)) : Inv X pins σ (hide1 H a) s := by
  have n1 : ∀ {b : Addr}, H b = none → hide1 H a b = none := fun {b} z => by unfold hide1; split <;> first | rfl | exact z
  have k1 : ∀ {b : Addr} {o : HO}, (∀ ψ, o ≠ .ext ψ) → H b = some o → hide1 H a b = some o := fun {b o} hn z => by
    unfold hide1
    rw [if_neg (by rintro rfl; rw [e] at z; exact hn _ (Option.some.inj z).symm)]; exact z
  refine ⟨I.ok, I.os, I.bare, ⟨I.base.keep, I.base.slot, fun b o q z hx => n1 (I.base.free b o q z hx), I.base.there, fun b xs q => k1 (fun _ z => nomatch z) (I.base.tups b xs q), fun b o u q => k1 (fun _ z => nomatch z) (I.base.frzs b o u q), fun b ps q => ?_⟩, I.loc, I.cell, n1 I.free, fun x c q => n1 (I.freeC x c q), fun p hp => ?_, fun b o q => ?_, I.len⟩
  · obtain ⟨m, z⟩ := I.base.tbls b ps q
    exact ⟨m, k1 (fun _ z => nomatch z) z⟩
  · obtain ⟨e1, n, r⟩ := I.pin p hp
    exact ⟨e1, n1 n, r⟩
  · have q' : H b = some o := by
      unfold hide1 at q
      split at q
      · cases q
      · exact q
    exact (I.hok b o q').stay (fun c u _ z => z) (fun c z => k1 (fun _ z => nomatch z) z) fun c xs z => k1 (fun _ z => nomatch z) z
end
section
variable {X : Cx} {o value e : Expr} {f : Str} {pos pos' : Pos} {ta tv : TE}
noncomputable def sExf (K : PySem.W.Frag) (ta tv : TE) (f : Str) : TS := fun D σ H => tv σ H fun y H1 => ta σ H1 fun x H2 => ∃ a C, x = .ref a ∧ H2 a = some (.ext (exNew a C)) ∧ ExcF K C f ∧ ∀ d, H2 d = none → D.nx σ (upd (upd H2 d (.xd [(f, y)])) a (.ext (exSet a C d)))
theorem ps_exf (ha : PE X o ta) (hv : PE X value tv) (hs : swapsWith value (some (.Attribute o f pos')) pos.line X.env = pure false) : PS X (.Assign [.Attribute o f pos'] value pos) (sExf X.K ta tv f) := by
  intro pins s σ H D I h
  refine plainObj_wpAny_Assign_Attribute (thn (hv pins s σ H _ I h) fun u s1 ⟨y, H1, I1, ry, q⟩ => thn (ha pins s1 σ H1 _ I1 q) fun ov s2 ⟨x, H2, I2, rx, a, C, ex, ea, G, q2⟩ => ?_) hs
  subst ex
  obtain rfl : ov = Value.ref a := rx
  obtain ⟨⟨oe, vs, a0, he, hc, hd0, hdat, h0, h1⟩, _⟩ := (show ObjOk X.prog X.w H2 s2.heap a (.ext (exNew a C)) from I2.hok a _ ea)
  have hn : PySem.W.notCls oe = true := by unfold PySem.W.notCls; rw [hdat]
  refine exc_setv G I2.kIn he hc hn hd0 fun h' e1 e2 e3 => ?_
  have fr : H2 s2.heap.objs.size = none := I2.hok.fresh (Nat.le_refl _)
  have ne : s2.heap.objs.size ≠ a := Nat.ne_of_gt (Heap.lt_size he)
  obtain ⟨oD, es, ep, hoD, hdD, r1, r2, r3⟩ := id e2
  have gd : (s2.heap.push oD).get? s2.heap.objs.size = some oD := Heap.get?_push_size _ (by
    have := (Heap.get?_some_iff.mp hoD).2
    first | exact this | simpa using this)
  have I3 : Inv X pins σ (upd H2 s2.heap.objs.size (.xd [(f, y)])) { s2 with heap := s2.heap.push oD, toks := s2.toks } := I2.laid (fun b o q => Heap.get?_push_of_some _ q) (Nat.le_refl _) ⟨_, ⟨oD, es, ep, gd, hdD, r1, r2, r3⟩, relo_one ry⟩
  have I4 : Inv X pins σ (upd (upd H2 s2.heap.objs.size (.xd [(f, y)])) a (.ext (exSet a C s2.heap.objs.size))) { s2 with heap := h', toks := s2.toks + 2 } := by
    refine I3.write (x := a) (e := a) (h' := h') (t' := s2.toks + 2) (by rw [upd_ne (Ne.symm ne), ea]; exact True.intro) (.inl rfl) (fun b o hb q => ?_) ⟨_, e1⟩ ⟨⟨_, vs, a0, e1, hc, rfl, hdat, h0, h1⟩, ⟨_, e1⟩, exSet_keep⟩
    rcases Heap.get?_push_cases q with ⟨z, z2⟩ | q
    · rw [z, z2]; exact hoD
    · exact e3 b o hb q
  exact ⟨σ, _, I4, q2 _ fr⟩
inductive isExf (K : PySem.W.Frag) (f : Str) (Q : VK) (x : V) (H1 : Hp) : Prop
  | mk (a C d : Addr) (fs : List (Str × V)) (v : V) (e : x = .ref a) (ea : H1 a = some (.ext (exPhi a C (some d)))) (ed : H1 d = some (.xd fs)) (G : ExcF K C f) (l : fs.lookup f = some v) (q : Q v H1) : isExf K f Q x H1
noncomputable def tExf (K : PySem.W.Frag) (ta : TE) (f : Str) : TE := fun σ H Q => ta σ H (isExf K f Q)
theorem pe_exf (he : PE X e ta) (hb : attributeBase e f X.env (eval e X.env) = eval e X.env := by rfl) : PE X (.Attribute e f pos) (tExf X.K ta f) := by
  intro pins s σ H Q I h
  refine attr_of hb (thn (he pins s σ H _ I h) fun u s1 ⟨x, H1, I1, rx, a, C, d, fs, v, ex, ea, ed, G, l, q⟩ => ?_)
  subst ex
  obtain rfl : u = Value.ref a := rx
  obtain ⟨⟨oe, vs, ho, ⟨hc, hdx⟩, hdat⟩, _⟩ := (show ObjOk X.prog X.w H1 s1.heap a (.ext (exPhi a C (some d))) from I1.hok a _ ea)
  obtain ⟨mA, hns, rel⟩ := (show ObjOk X.prog X.w H1 s1.heap d (.xd fs) from I1.hok d _ ed)
  obtain ⟨od, hod, hlk⟩ := lookIn_ns hns
  obtain ⟨u', hu, ru⟩ := RelO.some_of (v := v) (o := mA f) (by rw [← l]; exact rel f)
  have J : PySem.W.InstAt s1.heap a oe C (some od) := ⟨ho, hc, by unfold PySem.W.notCls; rw [hdat], by rw [hdx d rfl]; exact hod⟩
  exact exc_getv G.c I1.kIn J (PySem.W.findObj_own G.hd G.na rfl (by rw [hlk, hu])) (handed_of ru) ⟨v, H1, I1.tok _, ru, q⟩
end
inductive ispInit (C : Addr) (fld : Str) (a b : V) (H : Hp) (Q : VK) : Prop
  | mk (e : Addr) (ha : a = .ref e) (he : H e = some (.ext (exNew e C))) (q : ∀ d, H d = none → Q .non (upd (upd H d (.xd [(fld, b)])) e (.ext (exSet e C d)))) : ispInit C fld a b H Q
noncomputable def spInit (C : Addr) (fld : Str) : Sp := fun vs H Q _ => ∃ a b, vs = [a, b] ∧ ispInit C fld a b H Q
theorem fn_obj {K : PySem.W.Frag} {h : Heap} {f : Addr} (X : K.In h) (q : PySem.W.isFn K (.ref f) = true) : ∃ o, h.get? f = some o ∧ o.cls = .type "function" := by
  have q' : PySem.W.typeIn K (.ref f) = some (.type "function") := beq_iff_eq.mp q
  obtain ⟨o, ho, e⟩ := Option.map_eq_some_iff.mp (show (K.lookup f).map (·.cls) = some (.type "function") from q')
  exact ⟨o, X _ _ ho, e⟩
section
variable {P : Program} {w : World} {K : PySem.W.Frag} {mg : Str → Option Value} {base : Heap} {N : List Str} {qual : Str} {scope : Scope} {f : Addr} {cd : Value} {A : Around} {outer : List Env} {s : Shared} {H : Hp} {E : XK}
theorem ps_raiseR {x p1 fld : Str} {np cpos pos : Pos} {e₀ : Expr} {t : TA} {C fI : Addr} {fd : FuncData} {k k' : Nat} (hq : excInI K C fI bmV "ValueError.__new__" = true) (hm : mg x = some (.ref C)) (hfn : PySem.W.isFn K (.ref fI) = true)
    (FI : FnOk P w K mg base (CX1 P w) k' fI fd ["self", p1] (spInit C fld)) (hb : Binds K fd ["self", p1] []) (hr : Room k (cxOf (CX1 P w) P w K mg base N qual scope f cd A outer s H E).A)
    (ha : PA (cxOf (CX1 P w) P w K mg base N qual scope f cd A outer s H E) [e₀] t) (hkk : k' + 1 ≤ k := by decide)
    (hg : Gl (cxOf (CX1 P w) P w K mg base N qual scope f cd A outer s H E) x := by rfl) (hdb : (x == ("__debug__" : Str)) = false := by decide) (hp : plainE e₀ = true := by rfl) :
    PS (cxOf (CX1 P w) P w K mg base N qual scope f cd A outer s H E) (.Raise (some (.Call (.Name x np) [e₀] [] cpos)) none pos) (fun _ σ H0 => t σ H0 fun vs H1 => ∃ v, vs = [v] ∧ ∀ d, H1 d = none → E (.ref C) (some d) (upd H1 d (.xd [(fld, v)]))) := by
  intro pins s1 σ H0 D I h
  have he := star_plain (es := []) (env := (cxOf (CX1 P w) P w K mg base N qual scope f cd A outer s H E).env) hp
  obtain ⟨tl, N', nm, q, bs, hdct, sn, sub, ab, col, dd, k0, k1, k2, k3, k5, mN, hC, hN, hi, T⟩ := exc_objI I.ok.mod.kin hq
  obtain ⟨oI, hoI, hfc⟩ := fn_obj I.ok.mod.kin hfn
  refine Raise_initT (C := C) (nm := nm) (q := q) (N := N') (bs := bs) (bm := tl) (hdct := hdct) (sn := sn) (sub := sub) (ab := ab) (col := col) (dd := dd) (k0 := k0) (k1 := k1) (k2 := k2) (k3 := k3) (k5 := k5)
    PySem.F.excBase_ValueError (mN := mN) (fI := fI) (oI := oI) (T.hasType PySem.F.excBase_ValueError.hasBase) (I.ok.hd rfl) (by rw [he]; rfl) hi hfc (ld_glob I hg hm ⟨rfl, ?_⟩ hdb)
  have hs := ha cpos pins s1 σ H0 _ I h
  rw [he] at hs ⊢
  refine Calls.evalArgs_plain (wpAny_mono hs (fun us s2 h2 => ?_) fun _ _ y => y)
  obtain ⟨vs, H2, I2, r, v, rfl, hE⟩ := h2
  obtain ⟨u, rfl, ru⟩ := vals1 r
  refine ⟨rfl, (by show 1 ≤ sizeLine; decide), I2.bk _ _ hC, hN.keeps I2.bk, T.keeps I2.bk, I2.bk _ _ hoI, ?_⟩
  generalize hea : s2.heap.objs.size + 1 = ea
  have kp : ∀ b o, s2.heap.get? b = some o → ((s2.heap.push (argT [u])).push (excO C s2.heap.objs.size)).get? b = some o := fun b o z => Heap.get?_push_of_some _ (Heap.get?_push_of_some _ z)
  have e1 : ((s2.heap.push (argT [u])).push (excO C s2.heap.objs.size)).get? ea = some (excO C s2.heap.objs.size) := by
    have := Heap.get?_push_size (s2.heap.push (argT [u])) (o := excO C s2.heap.objs.size) rfl
    rw [Heap.size_push, hea] at this; exact this
  have hle : s2.heap.objs.size ≤ ea := by rw [← hea]; exact Nat.le_succ _
  have fr : H2 ea = none := I2.hok.fresh hle
  have I3 : Inv (cxOf (CX1 P w) P w K mg base N qual scope f cd A outer s H E) pins σ (upd H2 ea (.ext (exNew ea C))) { s2 with heap := (s2.heap.push (argT [u])).push (excO C s2.heap.objs.size), toks := s2.toks } :=
    I2.laid kp hle ⟨⟨_, _, _, e1, rfl, rfl, rfl, rfl, rfl⟩, ⟨_, e1⟩, exNew_keep⟩
  have hsp : spInit C fld [.ref ea, v] (upd H2 ea (.ext (exNew ea C))) (fun v' H' => v' = .non ∧ ∃ d, H2 d = none ∧ d ≠ ea ∧ H' = upd (upd (upd H2 ea (.ext (exNew ea C))) d (.xd [(fld, v)])) ea (.ext (exSet ea C d))) E0 :=
    ⟨_, _, rfl, ea, rfl, upd_same, fun d hd => by
      have ne : d ≠ ea := by rintro rfl; rw [upd_same] at hd; cases hd
      rw [upd_ne ne] at hd
      exact ⟨rfl, d, hd, ne, rfl⟩⟩
  refine wpAny_call (codeAny_mono (FI.run _ (cxOf (CX1 P w) P w K mg base N qual scope f cd A outer s H E).stack _ _ ⟨[.ref ea, u], []⟩ [.ref ea, u] _ _ E0 ((hr.mono hkk).make C [u] []) (I3.env0.make C [u] []) (hb _ [.ref ea, u] I3.kIn rfl) (show Vals [V.ref ea, v] [Value.ref ea, u] from .cons rfl (.cons ru .nil)) hsp) fun r s' hq' => ?_)
  cases r with
  | error e =>
    obtain ⟨_, _, _, _, _, _, _, _, _, _, z⟩ := (show CX1 P w _ _ _ E0 e s' from hq')
    exact z.elim
  | ok fl =>
    cases fl with
    | ret u' =>
      obtain ⟨v', H', I4, rv, rfl, d, hd0, hdne, rfl⟩ := I3.after hq'
      have hu' : u' = Value.none := rv
      subst hu'
      have I5 := I4.untrack upd_same
      have eH : hide1 (upd (upd (upd H2 ea (.ext (exNew ea C))) d (.xd [(fld, v)])) ea (.ext (exSet ea C d))) ea = upd H2 d (.xd [(fld, v)]) := by
        funext b
        unfold hide1 upd
        by_cases hb : b = ea
        · subst hb; rw [if_pos rfl, if_neg (Ne.symm hdne), fr]
        · rw [if_neg hb, if_neg hb]
          by_cases hd : b = d
          · rw [if_pos hd, if_pos hd]
          · rw [if_neg hd, if_neg hd, if_neg hb]
      rw [eH] at I5
      obtain ⟨⟨oe, vs', a0, he', hc', hd', hdat', h0', h1'⟩, _⟩ := (show ObjOk P w _ s'.heap ea (.ext (exSet ea C d)) from I4.hok ea _ upd_same)
      refine ⟨rfl, oe, vs', I4.bk _ _ hC, he', hc', hdat', h1', ?_⟩
      have hin : ∀ env ∈ (cxOf (CX1 P w) P w K mg base N qual scope f cd A outer s H E).stack, ∀ b, env.frame = some b → b ∈ ea :: frs (cxOf (CX1 P w) P w K mg base N qual scope f cd A outer s H E).stack := fun env he b hb => .tail _ (List.mem_filterMap.mpr ⟨env, he, hb⟩)
      refine wpAny_dkQ kd_leaving (wpAny_leaving_firstW (base := PySem.W.hideAll s'.heap (ea :: frs (cxOf (CX1 P w) P w K mg base N qual scope f cd A outer s H E).stack)) (a0 := a0) I5.ok.frames (PySem.W.funFrames_hide I5.stack hin) rfl he' (fun b o q => PySem.W.of_hideAll _ q) (PySem.W.hideAll_none _ (.head _)) hdat' h1' h0' fun h'' hL dk => ?_)
      obtain ⟨y1, y2, y3, y4⟩ := hL
      rw [hc'] at y3
      have olds : s.heap.get? ea = none := by
        cases z : s.heap.get? ea with
        | none => rfl
        | some o =>
          obtain ⟨o', z'⟩ := I2.base.there ea o z (fun z => nomatch z)
          exact absurd (Heap.lt_size z') (Nat.not_lt.mpr hle)
      refine left_cx (s1 := s') (hid := ea :: frs (cxOf (CX1 P w) P w K mg base N qual scope f cd A outer s H E).stack) I5 (fun b hb => .tail _ hb) (fun b hb => ?_) y1 y4 y3 (.inl (.head _)) (fun o z a za => ?_) (hE d hd0)
      · rcases List.mem_cons.mp hb with rfl | hb
        · exact .inr ⟨olds, by rw [upd_ne (Ne.symm hdne)]; exact fr⟩
        · exact .inl hb
      · cases za
        exact (dk.get he' z).trans hd'
    | next => exact False.elim hq'
    | brk => exact False.elim hq'
    | cont => exact False.elim hq'
end
end L2
set_option Elab.async false
set_option linter.all false
set_option maxRecDepth 100000
set_option maxHeartbeats 2000000
namespace L2
open PySem PySem.Spec PyProof.Rows
open PySem.AutoSeq1 (wpAny_loadPart')
theorem lk_list_keys : typeLookup (.type "list") "keys" = pure none := by rw [typeLookup_type, builtinLookup_eq_fast]; kernel_rfl
section
variable {prog : Program} {w : World} {A : Around} {E : Value → Shared → Prop} {s : Shared} {a : Addr}
theorem keys_none {its : Array Value} {Q : Option Value → Shared → Prop} (hA : A.handled = none) (hL : ∃ o n, s.heap.get? a = some o ∧ o.cls = .type "list" ∧ o.dict = none ∧ o.data = .seq its n)
    (h : ∀ h' tk, (∀ b o, s.heap.get? b = some o → h'.get? b = some o) → Q none { s with heap := h', toks := tk }) : wpAny (model prog w) A (getAttr? (.ref a) "keys") Q E s := by
  obtain ⟨⟨c, dct, dat, sl⟩, k, hx, hc, hd, hdat⟩ := hL
  simp only at hc hdat hd
  subst hc hdat hd
  obtain ⟨hp, g, d, tk, os⟩ := s
  have hT : ∀ tk', (⟨hp, g, d, tk', os⟩ : Shared).TypeIs (.ref a) "list" := fun _ => ⟨_, hx, rfl⟩
  have f1 := sub_AttributeError
  have f3 := F.slot_list_getattribute.lookup
  have f4 := F.slot_list_getattribute.bind (.ref a)
  have f5 := am_list_getattr_none
  unfold getAttr? getAttrBy? getAttrBy
  repeat (any_goals (first | assumption | exact hT _ | ((with_reducible show wpAny _ _ (call (Value.builtin "list.__getattribute__") _ _) _ _ _); refine call_meets F.slot_list_getattribute (hT _) am_entry_list_getattribute (F.args_list_getattribute_2 _ _) (meets_getattribute_miss_list a its k sl "keys" _ lk_list_keys (by decide) (by decide +kernel)) ⟨hx, hA, fun h' tk' e hx' => ?_⟩) | wp_step))
  obtain ⟨t', u', he⟩ := hx'.there
  show wpAny _ _ (getattributeRaised _ _ _ _ _ _ _) _ _ _
  unfold getattributeRaised
  repeat (any_goals (first | assumption | wp_step))
  exact h _ _ hx'.keeps
theorem entry_upd_loop : entryFor table "dict.update.loop" = some Builtin.«dict.update.loop» := entryFor_of_tree (by kernel_rfl)
end
section
variable {prog : Program} {w : World} {K : Type} [DecidableEq K] {knd : KeyKind prog w K} {A : Around} {R : Result → Shared → Prop}
noncomputable def PairAt (knd : KeyKind prog w K) (h : Heap) (x : Value) (kv : K × Value) : Prop := ∃ p key, x = .ref p ∧ PyProof.Rows.IsTup h p #[key, kv.2] ∧ knd.is kv.1 key = true
theorem upd_loop {d it l : Addr} {its : Array Value} {L : List (K × Value)} (hA : A.handled = none) (hdi : d ≠ it) (hli : l ≠ it) (hld : l ≠ d) (hlen : its.size = L.length) : ∀ (m i : Nat) (acc : List (K × Value)) (s : Shared), i + m = L.length → acc.length + m ≤ sizeLine →
    s.heap.IsListIter it l i → s.heap.IsList l its → (∀ (j : Nat) x kv, its[j]? = some x → L[j]? = some kv → PairAt knd s.heap x kv) → s.heap.DictOf knd d acc →
    (∀ h' tk, h'.DictOf knd d ((L.drop i).foldl (fun a p => stored a p.1 p.2) acc) → (∀ b o, b ≠ it → b ≠ d → s.heap.get? b = some o → h'.get? b = some o) → R (.ok (.ret .none)) { s with heap := h', toks := tk }) →
    codeAny (model prog w) A (.builtin "dict.update.loop" ⟨[.ref d, .ref it, rawInt i, .none], []⟩) R s := by
  intro m
  induction m with
  | zero =>
    intro i acc s hi hz hit hl hp hd k
    refine codeAny_builtin entry_upd_loop ?_
    unfold Builtin.«dict.update.loop»
    have hx : its[i]? = none := Array.getElem?_eq_none (by omega)
    refine wpAny_bind (wpAny_pyNext_list_end (by first | exact hA | (rw [Around.under_plainId plain_upd_loop]; exact hA)) hit hl hx fun h' ex => ?_)
    refine wpAny_pure ?_
    have e : L.drop i = [] := List.drop_eq_nil_of_le (by omega)
    have := k h' s.toks (by rw [e]; exact hd.extBut ex hdi) fun b o hb _ q => ex b o hb q
    exact this
  | succ m ih =>
    intro i acc s hi hz hit hl hp hd k
    refine codeAny_builtin entry_upd_loop ?_
    unfold Builtin.«dict.update.loop»
    have hiL : i < L.length := by omega
    have hii : i < its.size := by omega
    obtain ⟨p, key, ex, ⟨ot, hot, hct, nt, hdt⟩, hkey⟩ := hp i _ _ (Array.getElem?_eq_getElem hii) (List.getElem?_eq_getElem hiL)
    refine wpAny_bind (wpAny_pyNext_list_item hit hl (Array.getElem?_eq_getElem hii) fun h1 hit1 sb1 => ?_)
    rw [ex]
    have h1p : h1.get? p = some ot := by
      refine (sb1.2 p ?_).trans hot
      rintro rfl
      obtain ⟨oi, hoi, _, hci⟩ := hit
      rw [hot] at hoi; cases hoi; rw [hdt] at hci; cases hci
    have hd1 : h1.DictOf knd d acc := hd.extBut sb1.extBut hdi
    refine wpAny_bind (wpAny_holding ?_)
    have pr : wpAny (model prog w) (A.under (Code.builtin "dict.update.loop" ⟨[.ref d, .ref it, rawInt i, .none], []⟩)) (Builtin.Dict.pairItems (.ref p)) (fun l s' => l = [key, L[i].2] ∧ s' = { s with heap := h1 }) (fun _ _ => False) { s with heap := h1 } := by
      unfold Builtin.Dict.pairItems
      refine wpAny_bind (wpAny_typeOf (T := "tuple") ⟨ot, h1p, hct⟩ ?_)
      rw [if_pos (by decide)]
      refine wpAny_bind (wpAny_seqItems h1p hdt (wpAny_pure ⟨rfl, rfl⟩))
    refine wpAny_bind (wpAny_tryCatch (wpAny_mono pr (fun l s' hl' => ?_) fun _ _ z => z.elim))
    obtain ⟨rfl, rfl⟩ := hl'
    refine wpAny_holding (wpAny_dictSet_pairs hkey hd1 (fun h2 hd2 sb2 => ?_) (by omega))
    refine wpAny_pure ⟨Code.quiet_builtin _ (by decide +kernel), ?_⟩
    have keepL : ∀ b o, b ≠ it → b ≠ d → s.heap.get? b = some o → h2.get? b = some o := fun b o h3 h4 q => (sb2.2 b h4).trans ((sb1.2 b h3).trans q)
    have dpi : ∀ q o xs n, s.heap.get? q = some o → o.data = .seq xs n → q ≠ it ∧ q ≠ d := fun q o xs n e c => by
      constructor
      · rintro rfl
        obtain ⟨oi, hoi, _, hci⟩ := hit
        rw [e] at hoi; cases hoi; rw [c] at hci; cases hci
      · rintro rfl
        obtain ⟨od, _, _, hod, _, hcd, _⟩ := hd
        rw [e] at hod; cases hod; rw [c] at hcd; cases hcd
    have stl : (stored acc L[i].1 L[i].2).length ≤ acc.length + 1 := by
      unfold stored; split
      · simp
      · simp
    refine ih (i + 1) (stored acc L[i].1 L[i].2) { s with heap := h2, toks := _ } (by omega) (by omega) (hit1.extBut sb2.extBut (Ne.symm hdi)) ?_ (fun j x kv e1 e2 => ?_) hd2 fun h' tk hd' kp => ?_
    · obtain ⟨ol, hol, r⟩ := hl
      exact ⟨ol, keepL l ol hli hld hol, r⟩
    · obtain ⟨p', key', ex', ⟨ot', hot', hct', n', hdt'⟩, hk'⟩ := hp j x kv e1 e2
      obtain ⟨z1, z2⟩ := dpi p' ot' _ _ hot' hdt'
      exact ⟨p', key', ex', ⟨ot', keepL p' ot' z1 z2 hot', hct', n', hdt'⟩, hk'⟩
    · refine k h' tk ?_ fun b o h3 h4 q => kp b o h3 h4 (keepL b o h3 h4 q)
      rw [List.drop_eq_getElem_cons hiL, List.foldl_cons]
      exact hd'
theorem call_dict_pairs {E : Value → Shared → Prop} {s : Shared} {l : Addr} {its : Array Value} {L : List (K × Value)} {Q : Value → Shared → Prop} (hA : A.handled = none) (hl : s.heap.IsList l its) (hd0 : ∀ o, s.heap.get? l = some o → o.dict = none) (hlen : its.size = L.length) (hz : L.length ≤ sizeLine)
    (hp : ∀ (j : Nat) x kv, its[j]? = some x → L[j]? = some kv → PairAt knd s.heap x kv)
    (k : ∀ h' tk, h'.DictOf knd s.heap.objs.size (L.foldl (fun a p => stored a p.1 p.2) []) → (∀ b o, s.heap.get? b = some o → h'.get? b = some o) → Q (.ref s.heap.objs.size) { s with heap := h', toks := tk }) :
    wpAny (model prog w) A (call (.type "dict") [.ref l]) Q E s := by
  refine callType_codes (Q₁ := fun obj s₁ => obj = .ref s.heap.objs.size ∧ s₁ = { s with heap := s.heap.push { cls := .type "dict", data := .dict #[] } }) F.kt_called_dict (F.kt_typeCall_dict_1 _) F.entry_dict_init (kt_code_dict_new _ ⟨rfl, rfl⟩) ?_
  rintro obj s₁ ⟨rfl, rfl⟩
  have hnew : (s.heap.push { cls := .type "dict", data := .dict #[] }).DictOf knd s.heap.objs.size [] := Heap.DictOf.new s.heap
  have kp1 : ∀ b o, s.heap.get? b = some o → (s.heap.push { cls := .type "dict", data := .dict #[] }).get? b = some o := fun b o e => Heap.get?_push_of_some _ e
  refine ⟨hnew.typeIs, F.args_dict_init_2 _ _, ?_⟩
  unfold Builtin.«dict.__init__»
  refine wpAny_bind ?_
  unfold Builtin.Dict.selfAndRest
  refine wpAny_bind (wpAny_notOrdered_dict hnew.typeIs ?_)
  show wpAny _ _ (pure (s.heap.objs.size, [Value.ref l])) _ _ _
  refine wpAny_pure ?_
  show wpAny _ _ (Builtin.Dict.updateFrom "dict.__init__" s.heap.objs.size (.ref l) [] .none) _ _ _
  unfold Builtin.Dict.updateFrom
  obtain ⟨ol, hol, hcl, nl, hdl⟩ := hl
  refine wpAny_bind (wpAny_typeOf (T := "list") ⟨ol, kp1 _ _ hol, hcl⟩ ?_)
  rw [if_pos (by decide)]
  refine wpAny_bind (keys_none (s := { s with heap := s.heap.push { cls := .type "dict", data := .dict #[] } }) hA ⟨ol, nl, kp1 _ _ hol, hcl, hd0 _ hol, hdl⟩ fun h2 tk2 kp2 => ?_)
  rw [if_pos (show (none : Option Value).isNone = true from rfl)]
  refine wpAny_bind (wpAny_rule ?_)
  refine wpAny_bind (wpAny_pyIter_list (s := { s with heap := h2, toks := tk2 }) ⟨ol, kp2 _ _ (kp1 _ _ hol), hcl, nl, hdl⟩ ?_)
  refine wpAny_pure ⟨Code.quiet_builtin _ (by decide +kernel), ?_⟩
  have lt : s.heap.objs.size < h2.objs.size := by
    obtain ⟨o, _, _, ho, _⟩ := hnew
    exact Heap.lt_size (kp2 _ _ ho)
  have ltl : l < s.heap.objs.size := Heap.lt_size hol
  have kp3 : ∀ b o, s.heap.get? b = some o → (h2.push { cls := .type "list_iterator", data := .fields #[.ref l, .int 0 0] }).get? b = some o := fun b o e => Heap.get?_push_of_some _ (kp2 _ _ (kp1 _ _ e))
  refine upd_loop (knd := knd) (L := L) (its := its) (l := l) (it := h2.objs.size) (d := s.heap.objs.size) (A := A.in1) hA (Nat.ne_of_lt lt) (Nat.ne_of_lt (Nat.lt_trans ltl lt)) (Nat.ne_of_lt ltl) hlen L.length 0 [] _ (Nat.zero_add _) (by rw [List.length_nil]; omega) ⟨_, Heap.get?_push_size _ rfl, rfl, rfl⟩ ⟨ol, kp3 _ _ hol, hcl, nl, hdl⟩
    (fun j x kv e1 e2 => ?_) ?_ fun h' tk hd' kp' => ?_
  · obtain ⟨p, key, ex, ⟨ot, hot, r⟩, hk⟩ := hp j x kv e1 e2
    exact ⟨p, key, ex, ⟨ot, kp3 _ _ hot, r⟩, hk⟩
  · obtain ⟨o, es, ep, ho, r⟩ := hnew
    exact ⟨o, es, ep, Heap.get?_push_of_some _ (kp2 _ _ ho), r⟩
  · exact ⟨rfl, k h' tk hd' fun b o e => kp' b o (Nat.ne_of_lt (Nat.lt_trans (Heap.lt_size e) lt)) (Nat.ne_of_lt (Heap.lt_size e)) (kp3 _ _ e)⟩
end
noncomputable abbrev kwS (t : Tok) : List (Str × Value) := [(Str.ofString "start", .int 1 t)]
theorem tc_enum (a : Value) (t : Tok) : checkTypeCall "enumerate" ⟨[a], kwS t⟩ = pure () := by kernel_rfl
theorem nc_enum (a : Value) (t : Tok) : checkBuiltinCall "enumerate.__new__" ⟨[.type "enumerate", a], kwS t⟩ = pure () := by kernel_rfl
theorem ao_enum (o a : Value) (t : Tok) : argsOk "object.__init__" ⟨[o, a], kwS t⟩ := by unfold argsOk; kernel_rfl
theorem meets_enum1 (l : Addr) (items : Array Value) (n : Nat) (dct : Option Addr) (sl : Array (Option Value)) (t : Tok) :
    Meets (Builtin.«enumerate.__new__» ⟨[.type "enumerate", .ref l], kwS t⟩) (fun _ R s => s.heap.get? l = some { cls := .type "list", dict := dct, data := .seq items n, slots := sl } ∧
      R (.ok (.ret (.ref (s.heap.push { cls := .type "list_iterator", data := .fields #[.ref l, .int 0 0] }).objs.size)))
        { s with heap := (s.heap.push { cls := .type "list_iterator", data := .fields #[.ref l, .int 0 0] }).push { cls := .type "enumerate", data := .fields #[.none, .bool false, .ref s.heap.objs.size, rawInt 1, .none, .none] } }) :=
  .of_wp fun prog w A R s h => by
    obtain ⟨hp, g, d, tk, os⟩ := s; obtain ⟨hl, h⟩ := h
    have hsub := sub_enumerate
    have hL : Heap.IsList (Shared.heap ⟨hp, g, d, tk, os⟩) l items := ⟨_, hl, rfl, n, rfl⟩
    wp_walk using wpAny_loadPart' hl
    refine wpAny_stack_any fun st => wpAny_pure ?_
    split
    · rename_i c _ _ _ _ _
      cases (c == Value.type "enumerate")
      · wp_walk using wpAny_loadPart' hl, wpAny_pyIter_list hL
        exact ⟨_, rfl, h⟩
      · wp_walk using wpAny_loadPart' hl, wpAny_pyIter_list hL
        exact ⟨_, rfl, h⟩
    · wp_walk using wpAny_loadPart' hl, wpAny_pyIter_list hL
      exact ⟨_, rfl, h⟩
section
variable {prog : Program} {w : World} {A : Around} {E : Value → Shared → Prop} {s : Shared}
theorem init_meetsK {T newId : String} {self : Value} {rest : List Value} {kw : List (Str × Value)} (hl : typeLookup (.type T) "__init__" = pure (some (.builtin "object.__init__")))
    (hm : Bind.madeBy (.type T) = pure (some newId)) (hne : (some newId != some "object.__new__") = true) :
    Meets (Builtin.«object.__init__» ⟨self :: rest, kw⟩) (fun _ R s => s.TypeIs self T ∧ R (.ok (.ret .none)) s) := by
  refine Meets.of_wp fun prog w A R s hs => ?_
  obtain ⟨hT, hq⟩ := hs
  cases rest with
  | nil =>
    cases kw with
    | nil => exact wpAny_pure ⟨_, rfl, hq⟩
    | cons a kw =>
      repeat (any_goals (first | assumption | wp_step))
      exact ⟨_, rfl, hq⟩
  | cons a rest =>
    repeat (any_goals (first | assumption | wp_step))
    exact ⟨_, rfl, hq⟩
theorem call_enum1 {l : Addr} {items : Array Value} {t : Tok} {Q : Value → Shared → Prop} (hL : s.heap.IsList l items)
    (h : ∀ h', IsEnum h' (s.heap.objs.size + 1) s.heap.objs.size 1 .none → h'.IsListIter s.heap.objs.size l 0 → h'.objs.size = s.heap.objs.size + 2 →
      (∀ b o, s.heap.get? b = some o → h'.get? b = some o) → Q (.ref (s.heap.objs.size + 1)) { s with heap := h' }) :
    wpAny (model prog w) A (call (.type "enumerate") [.ref l] (kwS t)) Q E s := by
  have ft := F.called_enumerate
  obtain ⟨c, tl, hmro⟩ := ft.mro
  have hmade := ft.made
  have hsub := ft.sub
  obtain ⟨⟨cc, dct, dt, sl⟩, hl, hc, n, hd⟩ := hL
  replace hc : cc = .type "list" := hc
  replace hd : dt = .seq items n := hd
  subst hc hd
  refine wpAny_call (codeAny_of_tree ?_)
  show wpAny _ _ (callAny (.type "enumerate") _) _ _ _
  refine wpAny_pure ⟨Code.quiet_builtin _ (by decide +kernel), codeAny_builtin F.entry_type_call ?_⟩
  rw [Around.under_plain (weight_type_call_type "enumerate" [.ref l] (kwS t)) (units_type_call_type "enumerate" [.ref l] (kwS t))]
  have h1 := ft.notType
  have h2 := ft.canCreate
  have hct := tc_enum (.ref l) t
  repeat (any_goals (first | assumption | wp_step))
  refine codeAny_mono (codeAny_call_builtin ft.plain F.entry_enumerate_new (wpAny_of_eq (nc_enum (.ref l) t) (meets_enum1 l items n dct sl t prog w A.in1 (wants (fun obj s₁ => obj = .ref (s.heap.objs.size + 1) ∧ s₁ = { s with heap := (s.heap.push { cls := .type "list_iterator", data := .fields #[.ref l, .int 0 0] }).push { cls := .type "enumerate", data := .fields #[.none, .bool false, .ref s.heap.objs.size, rawInt 1, .none, .none] } }) E) s ⟨hl, ?_⟩))) fun r s₁ hr => ?_
  · have hz : (s.heap.push { cls := .type "list_iterator", data := .fields #[.ref l, .int 0 0] }).objs.size = s.heap.objs.size + 1 := Heap.size_push ..
    rw [hz]; exact ⟨rfl, rfl⟩
  have hz : (s.heap.push { cls := .type "list_iterator", data := .fields #[.ref l, .int 0 0] }).objs.size = s.heap.objs.size + 1 := Heap.size_push ..
  have he : IsEnum ((s.heap.push { cls := .type "list_iterator", data := .fields #[.ref l, .int 0 0] }).push
      { cls := .type "enumerate", data := .fields #[.none, .bool false, .ref s.heap.objs.size, rawInt 1, .none, .none] }) (s.heap.objs.size + 1) s.heap.objs.size 1 .none := by
    have := Heap.get?_push_size (s.heap.push { cls := .type "list_iterator", data := .fields #[.ref l, .int 0 0] })
      (o := { cls := .type "enumerate", data := .fields #[.none, .bool false, .ref s.heap.objs.size, rawInt 1, .none, .none] }) rfl
    rw [hz] at this; exact this
  cases r with
  | error e => exact hr
  | ok fl =>
    cases fl with
    | ret obj =>
      obtain ⟨rfl, rfl⟩ := hr
      have hT : (⟨(s.heap.push { cls := .type "list_iterator", data := .fields #[.ref l, .int 0 0] }).push { cls := .type "enumerate", data := .fields #[.none, .bool false, .ref s.heap.objs.size, rawInt 1, .none, .none] }, s.gens, s.drawn, s.toks, s.os⟩ : Shared).TypeIs (.ref (s.heap.objs.size + 1)) "enumerate" := ⟨_, he, rfl⟩
      have hli := ft.init.lookup
      have hbi := ft.init.bind (.ref (s.heap.objs.size + 1))
      repeat (any_goals (first | assumption | wp_step))
      refine codeAny_mono (codeAny_call_builtin ft.init.plain F.entry_object_init (ft.init.check _ _ _ _ _ _ _ _ hT (ao_enum _ _ _) (init_meetsK ft.init.lookup ft.made (by decide) prog w A.in1 (wants (fun r s₂ => r = .none ∧ Q (.ref (s.heap.objs.size + 1)) s₂) E) _ ⟨hT, rfl, h _ he ⟨_, Heap.get?_push_of_some _ (Heap.get?_push_size _ rfl), rfl, rfl⟩ (by rw [Heap.size_push, hz]) fun b o x => Heap.get?_push_of_some _ (Heap.get?_push_of_some _ x)⟩))) fun r₂ s₂ hr₂ => ?_
      cases r₂ with
      | error e => exact hr₂
      | ok fl₂ =>
        cases fl₂ with
        | ret r =>
          obtain ⟨rfl, hq⟩ := hr₂
          repeat (any_goals (first | assumption | wp_step))
        | _ => exact hr₂.elim
    | _ => exact hr.elim
theorem draws1 (hh : A.handled = none) (it l : Addr) (items : Array Value) (hne : it ≠ l) :
    Draws prog w A it [it, l] (items.size + 1) (fun i x => ∃ j, i = j + 1 ∧ items[j]? = some x) (fun i h => ∃ j, i = j + 1 ∧ h.IsListIter it l j ∧ h.IsList l items) where
  live := fun i h ⟨j, _, ⟨o, ho, _⟩, _⟩ => ⟨o, ho⟩
  frame := fun i h h' ⟨j, e, ⟨o, ho, r⟩, ⟨ol, hol, rl⟩⟩ k => ⟨j, e, ⟨o, k it (.head _) o ho, r⟩, ⟨ol, k l (.tail _ (.head _)) ol hol, rl⟩⟩
  item := fun i s Q E hi ⟨j, e, hit, hl⟩ hQ => by
    subst e
    have hj : j < items.size := by omega
    exact wpAny_nextOf_list_item hit hl (Array.getElem?_eq_getElem hj) fun h' hit' sb => by
      have := hQ items[j] h' s.toks ⟨j, rfl, Array.getElem?_eq_getElem hj⟩ ⟨j + 1, rfl, hit', by obtain ⟨ol, hol, r⟩ := hl; exact ⟨ol, (sb.2 l (Ne.symm hne)).trans hol, r⟩⟩ sb
      exact this
  done := fun s Q E ⟨j, e, hit, hl⟩ hE => by
    have : j = items.size := by omega
    subst this
    exact wpAny_nextOf_list_end hh hit hl (Array.getElem?_eq_none (Nat.le_refl _)) hE
end
section
variable {M : Model} {A : Around} {E : Value → Shared → Prop} {s : Shared} {env : Env}
theorem callWith_typeK {pos : Pos} {T : String} {e : Expr} {rest : List Expr} {kws : List Keyword} {Q : Value → Shared → Prop}
    (h : wpAny M A (spliced (backTo pos (starEach (e :: rest) env))) (fun vs s₁ => wpAny M A (evalAll ((backToKw pos (keywordEach kws env)).map (·.2)))
      (fun kvs s₂ => wpAny M A (call (.type T) vs (((backToKw pos (keywordEach kws env)).filterMap (·.1)).zip kvs)) Q E s₂) E s₁) E s)
    (he : backTo pos (starEach (e :: rest) env) = (false, eval e env) :: backTo pos (starEach rest env) := by rfl)
    (hplain : (backTo pos (starEach (e :: rest) env)).any (·.1) = false := by rfl)
    (hall : (backToKw pos (keywordEach kws env)).all (·.1.isSome) = true := by rfl)
    (hkw : (backToKw pos (keywordEach kws env)).any (·.1.isNone) = false := by rfl) :
    wpAny M A (callWith pos (.type T) [] (backTo pos (starEach (e :: rest) env)) (backToKw pos (keywordEach kws env))) Q E s := by
  have h2 : wpAny M A (evalArgs (.type T) true (backTo pos (starEach (e :: rest) env)) (backToKw pos (keywordEach kws env))) (fun a s₁ => wpAny M A (call (.type T) a.pos a.kw) Q E s₁) E s := by
    rw [he] at h ⊢
    exact evalArgs_kwB hall h
  unfold callWith
  refine wpAny_bind (wpAny_holding (wpAny_mono h2 (fun a s₁ h₁ => wpAny_bind (wpAny_standAt ?_)) fun _ _ x => x))
  simp only [hplain, hkw, Bool.or_false]
  refine wpAny_bind (wpAny_pure ?_)
  exact wpAny_bind (wpAny_mono h₁ (fun r s₂ hr => wpAny_bind (wpAny_holding (wpAny_point (wpAny_pure hr)))) fun _ _ x => x)
end
noncomputable def Ite1 (K : PySem.W.Frag) (a : Addr) : It :=
  ⟨fun i H => ∃ xs x, SqL K H a xs ∧ xs[i]? = some x,
   fun i H x H' => ∃ p u, x = .ref p ∧ H p = none ∧ H' = upd H p (.tup [.int ((i + 1 : Nat) : Int), u]) ∧ ∀ xs, SqL K H a xs → xs[i]? = some u,
   fun i H => ∃ xs, SqL K H a xs ∧ xs.length ≤ i⟩
structure EAt1 (h : Heap) (n a : Addr) (i : Nat) : Prop where
  en : ∃ old, IsEnum h (n + 1) n ((i + 1 : Nat) : Int) old
  it : h.IsListIter n a i
  ne : n ≠ a
theorem drawsE {prog : Program} {w : World} {A : Around} (hh : A.handled = none) (it l : Addr) (items : Array Value) (i0 : Nat) (hx : items[i0]? = none) :
    Draws prog w A it [it, l] (i0 + 1) (fun _ _ => False) (fun i h => i = i0 + 1 ∧ h.IsListIter it l i0 ∧ h.IsList l items) where
  live := fun i h ⟨_, ⟨o, ho, _⟩, _⟩ => ⟨o, ho⟩
  frame := fun i h h' ⟨e, ⟨o, ho, r⟩, ⟨ol, hol, rl⟩⟩ k => ⟨e, ⟨o, k it (.head _) o ho, r⟩, ⟨ol, k l (.tail _ (.head _)) ol hol, rl⟩⟩
  item := fun i s Q E hi ⟨e, _, _⟩ _ => absurd hi (by omega)
  done := fun s Q E ⟨_, hit, hl⟩ hE => wpAny_nextOf_list_end hh hit hl hx hE
theorem turn_enum1 {P : Program} {w : World} {K : PySem.W.Frag} {els : List Expr} {x1 : Nat} {tpos : Pos} (n a : Addr) :
    Turn P w K (.Tuple els x1 tpos) (Ite1 K a) (efp n) (n + 1) (fun i h => EAt1 h n a i) where
  mem := .head _
  obj := fun i h Z b hb => by
    obtain ⟨⟨old, he⟩, ⟨oi, hi, _, di⟩, _⟩ := Z
    unfold efp at hb
    simp only [List.mem_cons, List.not_mem_nil, or_false] at hb
    rcases hb with rfl | rfl
    · exact ⟨_, he, fun v z => by cases z⟩
    · exact ⟨_, hi, fun v z => by rw [di] at z; cases z⟩
  keep := fun i h h' Z k => by
    obtain ⟨⟨old, he⟩, ⟨oi, hi, r⟩, ne⟩ := Z
    exact ⟨⟨old, k _ (.head _) _ he⟩, ⟨oi, k _ (.tail _ (.head _)) _ hi, r⟩, ne⟩
  item := by
    intro X hP hw hK hc i pins s σ H E I hf Z hg
    subst hP hw hK
    obtain ⟨xs, x, q1, hx⟩ := hg
    obtain ⟨its, r1, e1⟩ := I.knd (k := .L) q1
    obtain ⟨u, hu, ru⟩ := r1.get hx
    have fl : ∀ b ∈ efp n, b < s.heap.objs.size := fun b hb => by
      obtain ⟨⟨old, he⟩, ⟨oi, hi, _⟩, _⟩ := id Z
      unfold efp at hb
      simp only [List.mem_cons, List.not_mem_nil, or_false] at hb
      rcases hb with rfl | rfl
      · exact Heap.lt_size he
      · exact Heap.lt_size hi
    obtain ⟨⟨old, he⟩, hit, nea⟩ := id Z
    have hlt : i < its.toArray.size := by
      have := (List.getElem?_eq_some_iff.mp hu).1
      simpa using this
    have aea : n + 1 ∉ [n, a] := by
      intro z
      simp only [List.mem_cons, List.not_mem_nil, or_false] at z
      rcases z with z | z
      · exact absurd z (Nat.succ_ne_self n)
      · obtain ⟨oa, hoa, hca, na, hda⟩ := e1
        rw [z] at he
        have he : s.heap.get? a = some _ := he
        rw [hoa] at he; cases he; cases hda
    refine wpAny_pyNext_enum_itemD (draws1 (A := X.A.in1) (I.ok.hd hc) n a its.toArray nea) he (i := i + 1) ⟨i, rfl, hit, e1⟩ (by omega) (Nat.succ_ne_self n) aea fun x' h' tk hx' ho hit' hT hz hk => ?_
    obtain ⟨j, hj, hxj⟩ := hx'
    have hj : j = i := by omega
    subst hj
    have ex' : x' = u := by
      have : its.toArray[j]? = some u := by simpa using hu
      rw [this] at hxj; exact (Option.some.inj hxj).symm
    subst ex'
    obtain ⟨j', hj', hit', _⟩ := hit'
    have hj' : j' = j + 1 := by omega
    subst hj'
    refine ⟨.ref s.heap.objs.size, rfl, wpAny_letOwnedTupleGo_enum (s := { s with heap := h', toks := tk + 1 }) ho fun h'' he'' sb => ?_⟩
    have sb : Heap.SameBut (n + 1) h' h'' := sb
    have n1 : n + 1 ∈ efp n := .head _
    have n0 : n ∈ efp n := .tail _ (.head _)
    have I1 : Inv X pins σ (upd H s.heap.objs.size (.tup [.int ((j + 1 : Nat) : Int), x])) { s with heap := s.heap.push { cls := .type "tuple", data := .seq #[.int ((j + 1 : Nat) : Int) tk, x'] }, toks := s.toks } :=
      I.laid (fun b o e => Heap.get?_push_of_some _ e) (Nat.le_refl _) ⟨by show 2 ≤ sizeLine; decide, [.int ((j + 1 : Nat) : Int) tk, x'], .cons ⟨_, rfl⟩ (.cons ru .nil), ⟨_, Heap.get?_push_size _ rfl, rfl, _, rfl⟩⟩
    have none' : ∀ b ∈ efp n, upd H s.heap.objs.size (.tup [.int ((j + 1 : Nat) : Int), x]) b = none := fun b hb => by
      rw [upd_ne (Nat.ne_of_lt (fl b hb))]; exact (hf b hb).1
    have I2 : Inv X pins σ (upd H s.heap.objs.size (.tup [.int ((j + 1 : Nat) : Int), x])) { s with heap := h'', toks := tk + 1 } := Inv.turnedL (s := { s with heap := s.heap.push { cls := .type "tuple", data := .seq #[.int ((j + 1 : Nat) : Int) tk, x'] }, toks := s.toks }) (fp := efp n) (t' := tk + 1) I1 (fun b o hb e => by
      have hb4 : b ≠ n + 1 := fun z => hb (by rw [z]; exact n1)
      have hb0 : b ≠ n := fun z => hb (by rw [z]; exact n0)
      refine sb.extBut _ _ hb4 ?_
      rcases Heap.get?_push_cases e with ⟨z, z2⟩ | e
      · rw [z, z2]; exact hT
      · exact hk b o hb4 hb0 e) fun b hb => ⟨none' b hb, (hf b hb).2⟩
    exact ⟨.ref s.heap.objs.size, _, I2, rfl, ⟨_, x, rfl, I.fresh, rfl, fun zs hz => by rw [I.knd_inj (k := .L) hz q1]; exact hx⟩, ⟨⟨_, he''⟩, hit'.extBut sb.extBut (Ne.symm (Nat.succ_ne_self n)), nea⟩, none'⟩
  done := by
    intro X hP hw hK hc i pins s σ H E I hf Z hg
    subst hP hw hK
    obtain ⟨xs, q1, hx⟩ := hg
    obtain ⟨its, r1, e1⟩ := I.knd (k := .L) q1
    have l1 := r1.length
    obtain ⟨⟨old, he⟩, hit, nea⟩ := id Z
    exact wpAny_pyNext_enum_endD (drawsE (A := X.A.in1) (I.ok.hd hc) n a its.toArray i (by simp; omega)) he ⟨rfl, hit, e1⟩ fun h' hk => ⟨rfl, I.turnedL (fp := efp n) (t' := s.toks) (fun b o hb e => hk b o (fun z => hb (by rw [z]; exact .tail _ (.head _))) e) hf⟩
  self := fun _ _ _ _ _ Z h => by
    obtain ⟨⟨old, he⟩, _, _⟩ := Z
    exact wpAny_pyIter_enum he h
section
variable {X : Cx} {els : List Expr} {x1 : Nat} {tpos : Pos}
noncomputable def iEnum1 (K : PySem.W.Frag) (ta : TA) : TI := fun σ H R => ta σ H fun vs H1 => ∃ a, vs = [.ref a] ∧ (∃ xs, SqL K H1 a xs) ∧ R (Ite1 K a) H1
theorem pi_enum1 {a : Expr} {ta : TA} {p pos kpos cpos : Pos} {cj} (hg : Gl X "enumerate") (hm : X.mg "enumerate" = none) (ha : PA X [a] ta) (hs : plainE a = true := by rfl) :
    PI X (.Tuple els x1 tpos) (.Call (.Name "enumerate" p) [a] [⟨some "start", .Constant (.int 1) cj cpos, kpos⟩] pos) (iEnum1 X.K ta) := by
  intro pins s σ H R I h
  refine wpAny_Call_Name_kw (ld_blt I hg hm PyProof.Rows.Boot.«enumerate» ?_)
  refine callWith_typeK (he := by rw [star_plain hs]; rfl) (hplain := by rw [star_plain hs]; rfl) (thn (ha pos pins s σ H _ I h) fun us s1 h1 => ?_)
  obtain ⟨vs, H1, I1, r, a1, rfl, ⟨xs, q1⟩, q⟩ := h1
  obtain ⟨u, rfl, ru⟩ := vals1 r
  cases ru
  refine thn ((pk_cons pe_int pk_nil) pos pins s1 σ H1 (fun zs H2 => zs = [.int 1] ∧ H2 = H1) I1 ⟨rfl, rfl⟩) fun ws s2 h2 => ?_
  obtain ⟨zs, H2, I2, r2, rfl, rfl⟩ := h2
  obtain ⟨v, rfl, t, rfl⟩ := vals1 r2
  obtain ⟨its, r1, e1⟩ := I2.knd (k := .L) q1
  refine call_enum1 e1 fun h' he hit hz hk => wpAny_pyIter_enum he ?_
  refine ⟨s2.heap.objs.size + 1, efp s2.heap.objs.size, _, _, H2, rfl, I2.kept (t' := s2.toks) hk, turn_enum1 _ a1, ⟨⟨_, he⟩, hit, ?_⟩, fun b hb => ?_, q⟩
  · obtain ⟨oa, hoa, _⟩ := e1
    exact Nat.ne_of_gt (Heap.lt_size hoa)
  have hle : s2.heap.objs.size ≤ b := by
    unfold efp at hb
    simp only [List.mem_cons, List.not_mem_nil, or_false] at hb
    rcases hb with rfl | rfl
    · exact Nat.le_add_right _ _
    · exact Nat.le_refl _
  exact I2.fpOk hle (I2.hok.fresh hle)
end
theorem for_enum1 {K : PySem.W.Frag} {a : Addr} {xs : List V} {g : TG} {tb : TS} {D : Ends} {σ : St} {H : Hp} (Pv : Nat → St → Hp → Prop) (h0 : Pv 0 σ H) (hl : ∀ i σ H, Pv i σ H → SqL K H a xs)
    (hs : ∀ i x p σ H, xs[i]? = some x → Pv i σ H → H p = none → g (.ref p) σ (upd H p (.tup [.int ((i + 1 : Nat) : Int), x])) fun σ2 H2 => tb { D with nx := Pv (i + 1), ct := Pv (i + 1), bk := D.nx } σ2 H2)
    (hd : ∀ σ H, Pv xs.length σ H → D.nx σ H) :
    ∃ W : Nat → Nat → St → Hp → Prop, (∃ m, W 0 m σ H) ∧ ∀ i m σ H, W i m σ H →
      ((Ite1 K a).stop i H ∧ D.nx σ H) ∨ ((Ite1 K a).go i H ∧ ∃ N : St → Hp → Prop, (∀ σ' H', N σ' H' → ∃ m', m' < m ∧ W (i + 1) m' σ' H') ∧ ∀ x H', (Ite1 K a).yld i H x H' → g x σ H' fun σ2 H2 => tb { D with nx := N, ct := N, bk := D.nx } σ2 H2) := by
  refine ⟨fun i m σ H => m = xs.length - i ∧ i ≤ xs.length ∧ Pv i σ H, ⟨_, rfl, Nat.zero_le _, h0⟩, ?_⟩
  rintro i m σ H ⟨rfl, hi, p⟩
  have q1 := hl i σ H p
  by_cases hlt : i < xs.length
  · refine .inr ⟨⟨xs, _, q1, List.getElem?_eq_getElem hlt⟩, Pv (i + 1), fun σ' H' n => ⟨_, by omega, rfl, hlt, n⟩, fun x H' hy => ?_⟩
    obtain ⟨a, u, rfl, ha, rfl, hu⟩ := hy
    exact hs i u a σ H (hu xs q1) p ha
  · have e : i = xs.length := by omega
    subst e
    exact .inl ⟨⟨xs, q1, Nat.le_refl _⟩, hd σ H p⟩
theorem pairs_ex {P : Program} {w : World} {H : Hp} {h : Heap} (hok : HOk P w H h) : ∀ {ps : List V} {kvs : List (Key × V)} {its : List Value}, ps.length = kvs.length → (∀ (j : Nat) x kv, ps[j]? = some x → kvs[j]? = some kv → ∃ p, x = .ref p ∧ H p = some (.tup [kV kv.1, kv.2])) → Vals ps its →
    ∃ L : List (Key × Value), KV kvs L ∧ ∀ (j : Nat) x kv, its[j]? = some x → L[j]? = some kv → PairAt (mixKind P w) h x kv
  | [], [], _, _, _, r => by cases r; exact ⟨[], .nil, fun j x kv e _ => by simp at e⟩
  | p :: ps, kv :: kvs, _, hl, hp, r => by
    cases r with
    | cons ru r =>
      obtain ⟨L, rL, hL⟩ := pairs_ex hok (by simpa using hl) (fun j x kv e1 e2 => hp (j + 1) x kv (by simpa using e1) (by simpa using e2)) r
      obtain ⟨a, rfl, ha⟩ := hp 0 p kv rfl rfl
      obtain ⟨_, us, rv, ot, hot, hct, n, hdt⟩ := (show ObjOk P w H h a (.tup [kV kv.1, kv.2]) from hok a _ ha)
      obtain ⟨u1, u2, rfl, r1, r2⟩ := vals2 rv
      refine ⟨(kv.1, u2) :: L, .cons ⟨rfl, r2⟩ rL, fun j x kv' e1 e2 => ?_⟩
      cases j with
      | zero =>
        simp only [List.getElem?_cons_zero, Option.some.injEq] at e1 e2
        subst e1; subst e2
        cases ru
        exact ⟨a, u1, rfl, ⟨ot, hot, hct, n, hdt⟩, kV_is r1⟩
      | succ j => exact hL j x kv' (by simpa using e1) (by simpa using e2)
inductive rDictP (xs : List V) (H : Hp) (Q : VK) : Prop
  | mk (l : Addr) (ps : List V) (kvs : List (Key × V)) (e : xs = [.ref l]) (hl : H l = some (.lst ps)) (len : ps.length = kvs.length) (hp : ∀ (j : Nat) x kv, ps[j]? = some x → kvs[j]? = some kv → ∃ p, x = .ref p ∧ H p = some (.tup [kV kv.1, kv.2])) (q : ∀ d, H d = none → Q (.ref d) (upd H d (.dK (mergeK [] kvs)))) : rDictP xs H Q
theorem call_dictP {X : Cx} (hc : X.calm = true) : CallR X (.type "dict") rDictP := by
  intro pins s σ H xs us Q I r h
  obtain ⟨l, ps, kvs, rfl, hl, len, hp, q⟩ := h
  obtain ⟨u, rfl, ru⟩ := vals1 r
  cases ru
  obtain ⟨hz, its, n, rv, ho⟩ := (show ObjOk X.prog X.w H s.heap l (.lst ps) from I.hok l _ hl)
  have hlen := rv.length
  obtain ⟨L, rL, hL⟩ := pairs_ex I.hok len hp rv
  have lL := rL.length
  refine call_dict_pairs (knd := mixKind X.prog X.w) (L := L) (its := its.toArray) (I.ok.hd hc) ⟨_, ho, rfl, n, rfl⟩ (fun o e => by rw [ho] at e; cases e; rfl) (by simp; omega) (by omega) (fun j x kv e1 e2 => hL j x kv (by simpa using e1) e2) fun h' tk hd' kp => ?_
  have fr : H s.heap.objs.size = none := I.hok.fresh (Nat.le_refl _)
  refine ⟨.ref s.heap.objs.size, _, I.laid (o := .dK (mergeK [] kvs)) kp (Nat.le_refl _) ⟨?_, ?_, _, KV.merge rL (.nil : KV [] []), hd'⟩, rfl, q _ fr⟩
  · have := length_mergeK kvs []
    rw [List.length_nil] at this; omega
  · exact beq_eq_false_iff_ne.mpr (Ne.symm (Nat.ne_of_lt I.big))
section
variable {K : PySem.W.Frag} {g : TG} {te : TE} {σ0 : St} {H1 : Hp} {Q : VK}
theorem comp_eachI {J : It} (n : Nat) (hl : n < sizeLine) (R : Addr → Nat → List V → Hp → Prop) (j0 : ∀ D, H1 D = none → R D 0 [] (upd H1 D (.lst []))) (go : ∀ i H', i < n → Same H1 H' → J.go i H') (stop : ∀ H', Same H1 H' → J.stop n H')
    (step : ∀ D i x ys H' H'', i < n → H1 D = none → Same H1 H' → H' D = some (.lst ys) → R D i ys H' → J.yld i H' x H'' → ∀ Q' : VK, (∀ v H3, Same H' H3 → R D (i + 1) (ys ++ [v]) (upd H3 D (.lst (ys ++ [v]))) → Q' v H3) → g x σ0 H'' fun σ2 H2 => te σ2 H2 Q')
    (fin : ∀ D ys H', H1 D = none → Same H1 H' → H' D = some (.lst ys) → R D n ys H' → Q (.ref D) H') : compW J g te σ0 Q H1 := by
  intro D hD
  refine ⟨fun i m ys H' => i ≤ n ∧ m = n - i ∧ ys.length = i ∧ Same H1 H' ∧ H' D = some (.lst ys) ∧ R D i ys H', ⟨_, Nat.zero_le _, rfl, rfl, Same.new hD, upd_same, j0 D hD⟩, ?_⟩
  rintro i m ys H' ⟨hi, rfl, hy, S, e, hj⟩
  refine ⟨e, by omega, ?_⟩
  by_cases hlt : i < n
  · refine .inr ⟨go i H' hlt S, fun x H'' hy' => ?_⟩
    exact step D i x ys _ _ hlt hD S e hj hy' _ fun v H3 S3 hj' => ⟨S3 _ _ e, n - (i + 1), by omega, hlt, rfl, by rw [List.length_append, hy]; rfl, (S.trans S3).upd hD, upd_same, hj'⟩
  · have ei : i = n := by omega
    subst ei
    exact .inl ⟨stop H' S, fin D ys H' hD S e hj⟩
end
structure RowI (P : Program) (w : World) (K : PySem.W.Frag) (mg : Str → Option Value) (base : Heap) (x : Str) (C : Addr) (fld : Str) (k' : Nat) : Prop where
  ex : ∃ fI fd p1, excInI K C fI bmV "ValueError.__new__" = true ∧ mg x = some (.ref C) ∧ PySem.W.isFn K (.ref fI) = true ∧ FnOk P w K mg base (CX1 P w) k' fI fd ["self", p1] (spInit C fld) ∧ Binds K fd ["self", p1] []
theorem ps_raiseRI {P : Program} {w : World} {K : PySem.W.Frag} {mg : Str → Option Value} {base : Heap} {N : List Str} {qual : Str} {scope : Scope} {f : Addr} {cd : Value} {A : Around} {outer : List Env} {s : Shared} {H : Hp} {E : XK}
    {x fld : Str} {np cpos pos : Pos} {e₀ : Expr} {t : TA} {C : Addr} {k k' : Nat} (F : RowI P w K mg base x C fld k') (hr : Room k (cxOf (CX1 P w) P w K mg base N qual scope f cd A outer s H E).A)
    (ha : PA (cxOf (CX1 P w) P w K mg base N qual scope f cd A outer s H E) [e₀] t) (hkk : k' + 1 ≤ k := by decide)
    (hg : Gl (cxOf (CX1 P w) P w K mg base N qual scope f cd A outer s H E) x := by rfl) (hdb : (x == ("__debug__" : Str)) = false := by decide) (hp : plainE e₀ = true := by rfl) :
    PS (cxOf (CX1 P w) P w K mg base N qual scope f cd A outer s H E) (.Raise (some (.Call (.Name x np) [e₀] [] cpos)) none pos) (fun _ σ H0 => t σ H0 fun vs H1 => ∃ v, vs = [v] ∧ ∀ d, H1 d = none → E (.ref C) (some d) (upd H1 d (.xd [(fld, v)]))) := by
  obtain ⟨fI, fd, p1, hq, hm, hfn, FI, hb⟩ := F.ex
  exact ps_raiseR hq hm hfn FI hb hr ha hkk hg hdb hp
end L2
set_option Elab.async false
set_option linter.all false
set_option maxRecDepth 100000
set_option maxHeartbeats 2000000
namespace L2
open PySem PySem.Spec PyProof.Rows
theorem ps_setR {X : Cx} {i : Nat} {x : Str} {e : Expr} {te : TE} {pos pos' : Pos} (hN : X.N.Nodup) (hi : X.N[i]? = some x) (hx : Loc X.env.scope x) (he : PE X e te) (hs : swapsWith e (some (.Name x pos')) pos.line X.env = pure false := by rfl) (hf : X.fn x = true ∨ X.env.scope.names.lookup x = some .local := by first | exact .inl rfl | exact .inr rfl | assumption) :
    PS X (.Assign [.Name x pos'] e pos) (fun D σ H => ∃ R : VK, te σ H R ∧ ∀ v H', R v H' → D.nx (σ.set i (some v)) H') := by
  intro pins s σ H D I h
  obtain ⟨R, h1, h2⟩ := h
  refine wpAny_Assign_Name (thn (he pins s σ H _ I h1) fun v s1 ⟨y, H1, I1, r1, q1⟩ => ?_) hs
  exact store_ok I1 hN hi hx r1 (fun s2 I2 => ⟨_, H1, I2, h2 _ _ q1⟩) hf
end L2
set_option Elab.async false
set_option linter.all false
namespace L2
open PySem PySem.Spec PyProof.Rows
theorem pe_exfK {X : Cx} {e : Expr} {f : Str} {pos : Pos} {ta : TE} (K : PySem.W.Frag) (he : PE X e ta) (hb : attributeBase e f X.env (eval e X.env) = eval e X.env := by rfl) (h : X.K = K := by rfl) : PE X (.Attribute e f pos) (tExf K ta f) := h ▸ pe_exf he hb
theorem keep_three {K : PySem.W.Frag} {i k m lv n : Nat} {caps : List Nat} (hi : i < lv) (hk : k < lv) (hm : m < lv) : GKeep (gTup K n (gCons (gName i) (gCons (gName k) (gCons (gName m) gNil)))) lv caps := by
  rintro σ y H' Q ⟨a, xs, e1, hq, hl, v, r, e2, v', r', e3, v'', r'', e4, e5, q⟩
  exact ⟨a, xs, e1, hq, hl, v, r, e2, v', r', e3, v'', r'', e4, e5, q, stays_set hm (stays_set hk (stays_set hi fun _ _ e => e))⟩
end L2
set_option Elab.async false
set_option linter.all false
set_option maxRecDepth 100000
set_option maxHeartbeats 2000000
namespace L2
open PySem PySem.Spec PyProof.Rows
theorem turn_longrange {P : Program} {w : World} {K : PySem.W.Frag} {tg : Expr} (it : Addr) (lo : Int) (n : Nat) : Turn P w K tg (Itr lo n) [it] it (fun i h => IsLongIter h it (lo + (i : Nat) * 1) ((n : Int) - (i : Nat)) 1) where
  mem := by simp
  obj := fun i h st b hb => by
    have e : b = it := by simpa using hb
    subst e
    exact ⟨_, st, fun v z => by
      have z' : Data.fields _ = Data.cell v := z
      cases z'⟩
  keep := fun i h h' st k => k it (by simp) _ st
  item := by
    intro X hP hw hK hc i pins s σ H E I hf st hg
    subst hP hw hK
    obtain ⟨f0, f1, f2, f3, f4, f5⟩ := hf it (by simp)
    have W := Walks.longrange (prog := X.prog) (w := X.w) (I.ok.hd hc) it lo 1 n
    refine W.item i s _ _ hg st fun v h' tk hv st' kk => ?_
    obtain ⟨t, rfl⟩ := hv
    have I1 : Inv X pins σ H { s with heap := h', toks := tk } := I.turned (fun b o hb e => kk b o (by simpa using hb) e) f0 f1 f3 f4 f5
    refine ⟨_, rfl, go_of (s := { s with heap := h', toks := tk }) (n := "longrange_iterator") st' rfl rfl (by decide) ⟨.int (lo + i), H, I1, ⟨t, ?_⟩, ⟨rfl, rfl⟩, st', fun b hb => (hf b hb).1⟩⟩
    rw [Int.mul_one]
  done := by
    intro X hP hw hK hc i pins s σ H E I hf st hg
    subst hP hw hK
    obtain ⟨f0, f1, f2, f3, f4, f5⟩ := hf it (by simp)
    exact wpAny_pyNext_long_end (I.ok.hd hc) st (by have : n ≤ i := hg; omega) fun h' eb => ⟨rfl, I.turned (t' := s.toks) (fun b o hb e => eb b o hb e) f0 f1 f3 f4 f5⟩
  self := fun _ _ _ _ _ st h => wpAny_pyIter_longiter st h
section
variable {X : Cx} {tg : Expr}
theorem range_itB {pins : List (Addr × Obj)} {σ : St} {H : Hp} {s : Shared} {R : It → Hp → Prop} {E : Value → Shared → Prop} {lo hi : Int} {t u v : Tok} {tk : Nat} (I : Inv X pins σ H s)
    (q : R (Itr lo (hi - lo).toNat) H) : wpAny (model X.prog X.w) X.A (pyIter (.ref s.heap.objs.size)) (PIE X pins σ tg R) E { s with heap := s.heap.push { cls := .type "range", data := .fields #[.int lo t, .int hi u, .int 1 v] }, toks := tk } := by
  have I1 : Inv X pins σ H { s with heap := s.heap.push { cls := .type "range", data := .fields #[.int lo t, .int hi u, .int 1 v] }, toks := tk } := I.kept fun b o e => Heap.get?_push_of_some _ e
  have e1 : lo + ((0 : Nat) : Int) * 1 = lo := by simp
  have e2 : (((hi - lo).toNat : Nat) : Int) - ((0 : Nat) : Int) = Builtin.Range.rangeSize lo hi 1 := by rw [rangeSize_one]; split <;> omega
  cases hs : Builtin.Range.small lo hi 1 with
  | true =>
    refine wpAny_pyIter_range (IsRange.new ..) hs ?_
    refine ⟨(s.heap.push { cls := .type "range", data := .fields #[.int lo t, .int hi u, .int 1 v] }).objs.size, [(s.heap.push { cls := .type "range", data := .fields #[.int lo t, .int hi u, .int 1 v] }).objs.size], _, _, H, rfl,
      I1.kept (t' := tk) fun b o e => Heap.get?_push_of_some _ e, turn_range _ lo (hi - lo).toNat, ?_, fun b hb => ?_, q⟩
    · show IsRangeIter _ _ (lo + ((0 : Nat) : Int) * 1) ((((hi - lo).toNat : Nat) : Int) - ((0 : Nat) : Int)) 1
      rw [e1, e2]
      exact Heap.get?_push_size _ rfl
    · have e : b = (s.heap.push { cls := .type "range", data := .fields #[.int lo t, .int hi u, .int 1 v] }).objs.size := by simpa using hb
      subst e
      exact I1.fpOk (Nat.le_refl _) (I1.hok.fresh (Nat.le_refl _))
  | false =>
    refine wpAny_pyIter_longrange (IsRange.new ..) hs ?_
    refine ⟨(s.heap.push { cls := .type "range", data := .fields #[.int lo t, .int hi u, .int 1 v] }).objs.size, [(s.heap.push { cls := .type "range", data := .fields #[.int lo t, .int hi u, .int 1 v] }).objs.size], _, _, H, rfl,
      I1.kept (t' := tk) fun b o e => Heap.get?_push_of_some _ e, turn_longrange _ lo (hi - lo).toNat, ?_, fun b hb => ?_, q⟩
    · show IsLongIter _ _ (lo + ((0 : Nat) : Int) * 1) ((((hi - lo).toNat : Nat) : Int) - ((0 : Nat) : Int)) 1
      rw [e1, e2]
      exact Heap.get?_push_size _ rfl
    · have e : b = (s.heap.push { cls := .type "range", data := .fields #[.int lo t, .int hi u, .int 1 v] }).objs.size := by simpa using hb
      subst e
      exact I1.fpOk (Nat.le_refl _) (I1.hok.fresh (Nat.le_refl _))
noncomputable def iRngB (ta : TA) : TI := fun σ H R => ta σ H fun vs H1 => ∃ i j : Int, vs = [.int i, .int j] ∧ R (Itr i (j - i).toNat) H1
theorem pi_rangeB {a b : Expr} {ta : TA} {p pos : Pos} (hg : Gl X "range") (hm : X.mg "range" = none) (ha : PA X [a, b] ta) (hs : starEach [a, b] X.env = [(false, eval a X.env), (false, eval b X.env)] := by rfl) (hs2 : starEach [b] X.env = [(false, eval b X.env)] := by rfl) :
    PI X tg (.Call (.Name "range" p) [a, b] [] pos) (iRngB ta) := by
  intro pins s σ H R I h
  refine Call_ (ld_blt I hg hm boot_range (PyProof.Rows.callWith_type1 (thn (ha pos pins s σ H _ I h) fun us s1 ⟨vs, H1, I1, r1, q1⟩ => ?_) (by rw [hs, hs2]) (by rw [hs2]; rfl)))
  obtain ⟨i, j, e, q⟩ := q1
  subst e
  cases r1 with
  | cons r rr =>
    cases rr with
    | cons r' rr =>
      cases rr
      obtain ⟨t, rfl⟩ := r
      obtain ⟨t', rfl⟩ := r'
      exact call_range_2 (range_itB I1 q)
inductive rInD (K : PySem.W.Frag) (x y : V) (H : Hp) (Q : VK) : Prop
  | mk (d : PyData) (ds : List PyData) (rx : RdD K H x d) (ry : RdD K H y (.list ds)) (cd : d.canLay0 = true) (dd : d.depth ≤ 3) (cds : PyData.canLayAll0 ds = true) (q : Q (.bl (ds.any fun e => PyData.eqv e d)) H) : rInD K x y H Q
theorem op_inDK (K : PySem.W.Frag) (hu : X.A.units + 64 < cLine) (hK : X.K = K := by rfl) : OpR X (compareOp .In) (rInD K) := by
  subst hK
  intro pins s σ H x y v u Q I rx ry h
  obtain ⟨d, ds, hd, he, c1, d1, c2, q⟩ := h
  obtain ⟨as, r1⟩ := reads_of I hd rx
  obtain ⟨bs, r2⟩ := reads_of I he ry
  exact SeqAt.in_list_reads r2 r1 c2 c1 (by omega) ⟨.bl _, H, I, rfl, q⟩
end
end L2
namespace RF
noncomputable abbrev Cop (a b : Int) : Prop := Int.gcd a b = 1
theorem Cop.symm {a b : Int} (h : Cop a b) : Cop b a := by unfold Cop; rw [Int.gcd_comm]; exact h
noncomputable def prod : List Int → Int
  | [] => 1
  | d :: r => d * prod r
theorem prod_append (a b : List Int) : prod (a ++ b) = prod a * prod b := by
  induction a with
  | nil => simp [prod]
  | cons x r ih => simp only [List.cons_append, prod, ih, Int.mul_assoc]
structure GoodBase (kept spare : List Int) : Prop where
  k1 : 1 ≤ kept.length
  k6 : kept.length ≤ 6
  s4 : spare.length ≤ 4
  rng : ∀ d ∈ kept ++ spare, 2 ≤ d ∧ d ≤ 1000000
  cop : (kept ++ spare).Pairwise Cop
  lt : ∀ k ∈ kept, ∀ s ∈ spare, k < s
theorem not_cop_self {d : Int} (h : 2 ≤ d) : ¬ Cop d d := by
  unfold Cop
  rw [Int.gcd_self]
  omega
theorem rise_of {l : List Int} (h2 : ∀ d ∈ l, 2 ≤ d) (hc : l.Pairwise Cop) (hs : l.Pairwise (· ≤ ·)) : l.Pairwise (· < ·) := by
  have := hc.and hs
  refine this.imp_of_mem ?_
  intro a b ha hb ⟨h1, h2'⟩
  have : a ≠ b := by
    rintro rfl
    exact not_cop_self (h2 a ha) h1
  omega
theorem good_cut {l : List Int} {n at' : Nat} {rev : Bool} (h2 : ∀ d ∈ l, 2 ≤ d ∧ d ≤ 1000000) (hc : l.Pairwise Cop) (hs : l.Pairwise (· < ·)) (hn : 1 ≤ n) (hn6 : n ≤ 6) (hl : n ≤ l.length) (hl4 : l.length ≤ n + 4) :
    GoodBase ((l.take n).drop at' ++ (l.take n).take at') (if rev then (l.drop n).reverse else l.drop n) := by
  have p1 : ((l.take n).drop at' ++ (l.take n).take at').Perm (l.take n) := by
    have := List.perm_append_comm (l₁ := (l.take n).drop at') (l₂ := (l.take n).take at')
    rw [List.take_append_drop] at this
    exact this
  have p2 : (if rev then (l.drop n).reverse else l.drop n).Perm (l.drop n) := by
    cases rev
    · exact List.Perm.refl _
    · exact List.reverse_perm _
  have p : ((l.take n).drop at' ++ (l.take n).take at' ++ (if rev then (l.drop n).reverse else l.drop n)).Perm l := by
    have := p1.append p2
    rw [List.take_append_drop] at this
    exact this
  have l1 := p1.length_eq
  have l2 := p2.length_eq
  rw [List.length_take] at l1
  rw [List.length_drop] at l2
  refine ⟨by omega, by omega, by omega, fun d hd => h2 d (p.mem_iff.mp hd), ?_, fun k hk s hs' => ?_⟩
  · exact (p.pairwise_iff (fun h => Cop.symm h)).mpr hc
  · have hk' := p1.mem_iff.mp hk
    have hs'' := p2.mem_iff.mp hs'
    have hp : (l.take n ++ l.drop n).Pairwise (· < ·) := by rw [List.take_append_drop]; exact hs
    exact (List.pairwise_append.mp hp).2.2 k hk' s hs''
noncomputable def rawSome (n : Int) : List Int := [[2, 4, 8, 64].getD (n % 4).toNat 0, [3, 9, 27].getD (n / 4 % 3).toNat 0, [5, 25, 625].getD (n / 12 % 3).toNat 0] ++ [7, 11, 13, 17, 19, 23, 29, 101, 997, 9973, 999983]
theorem raw_ok (n : Int) : (∀ d ∈ rawSome n, 2 ≤ d ∧ d ≤ 1000000) ∧ (rawSome n).Pairwise Cop ∧ (rawSome n).length = 14 := by
  have all : ∀ i j k : Nat, i < 4 → j < 3 → k < 3 → (∀ d ∈ [[2, 4, 8, 64].getD i (0 : Int), [3, 9, 27].getD j 0, [5, 25, 625].getD k 0] ++ [7, 11, 13, 17, 19, 23, 29, 101, 997, 9973, 999983], 2 ≤ d ∧ d ≤ 1000000) ∧
      ([[2, 4, 8, 64].getD i (0 : Int), [3, 9, 27].getD j 0, [5, 25, 625].getD k 0] ++ [7, 11, 13, 17, 19, 23, 29, 101, 997, 9973, 999983]).Pairwise Cop := by
    intro i j k hi hj hk
    have : ∀ i ∈ List.range 4, ∀ j ∈ List.range 3, ∀ k ∈ List.range 3, (∀ d ∈ [[2, 4, 8, 64].getD i (0 : Int), [3, 9, 27].getD j 0, [5, 25, 625].getD k 0] ++ [7, 11, 13, 17, 19, 23, 29, 101, 997, 9973, 999983], 2 ≤ d ∧ d ≤ 1000000) ∧
      ([[2, 4, 8, 64].getD i (0 : Int), [3, 9, 27].getD j 0, [5, 25, 625].getD k 0] ++ [7, 11, 13, 17, 19, 23, 29, 101, 997, 9973, 999983]).Pairwise Cop := by decide +kernel
    exact this i (List.mem_range.mpr hi) j (List.mem_range.mpr hj) k (List.mem_range.mpr hk)
  have h1 : (n % 4).toNat < 4 := by omega
  have h2 : (n / 4 % 3).toNat < 3 := by omega
  have h3 : (n / 12 % 3).toNat < 3 := by omega
  obtain ⟨a, b⟩ := all _ _ _ h1 h2 h3
  exact ⟨a, b, rfl⟩
theorem sorted_ok {n : Int} {l : List Int} (hp : l.Perm (rawSome n)) (hs : l.Pairwise (· ≤ ·)) : (∀ d ∈ l, 2 ≤ d ∧ d ≤ 1000000) ∧ l.Pairwise Cop ∧ l.Pairwise (· < ·) ∧ l.length = 14 := by
  obtain ⟨a, b, c⟩ := raw_ok n
  have a' : ∀ d ∈ l, 2 ≤ d ∧ d ≤ 1000000 := fun d hd => a d (hp.mem_iff.mp hd)
  have b' : l.Pairwise Cop := (hp.pairwise_iff (fun h => Cop.symm h)).mpr b
  exact ⟨a', b', rise_of (fun d hd => (a' d hd).1) b' hs, by rw [hp.length_eq, c]⟩
end RF
namespace RF
theorem prod_pos : ∀ {l : List Int}, (∀ d ∈ l, 2 ≤ d) → 0 < prod l
  | [], _ => by decide
  | d :: r, h => by
    have h1 := h d List.mem_cons_self
    have h2 := prod_pos fun e he => h e (List.mem_cons_of_mem _ he)
    exact Int.mul_pos (by omega) h2
theorem take_succ_prod {l : List Int} {i : Nat} {d : Int} (h : l[i]? = some d) : prod (l.take (i + 1)) = prod (l.take i) * d := by
  rw [List.take_add_one, h, prod_append]
  show prod (l.take i) * (d * 1) = _
  rw [Int.mul_one]
noncomputable def lowest (kept : List Int) : Int := -((prod kept - 1) / 2)
noncomputable def highest (kept : List Int) : Int := prod kept / 2
noncomputable def rests (all : List Int) (x : Int) : List Int := all.map fun d => x % d
end RF
set_option linter.all false
namespace RF
end RF
set_option Elab.async false
set_option linter.all false
set_option maxRecDepth 100000
set_option maxHeartbeats 4000000
namespace RF
open PySem L2
theorem map_erase : ∀ (ns : List Int) (i : Nat), (ns.map V.int).eraseIdx i = (ns.eraseIdx i).map V.int
  | [], _ => rfl
  | _ :: _, 0 => rfl
  | x :: r, i + 1 => by
    show V.int x :: (r.map V.int).eraseIdx i = V.int x :: (r.eraseIdx i).map V.int
    rw [map_erase r i]
theorem atI_ints {ns : List Int} {i : Int} (h0 : 0 ≤ i) (h1 : i < ns.length) : atI (ns.map V.int) i = some (.int (ns.getD i.toNat 0)) := by
  have e : i = (i.toNat : Int) := by omega
  have hl : i.toNat < ns.length := by omega
  generalize i.toNat = k at e hl
  subst e
  refine atI_nat ?_
  rw [List.getElem?_map, List.getD_eq_getElem?_getD, List.getElem?_eq_getElem hl]
  rfl
theorem cut_to {ns : List Int} {k : Int} (h : 0 ≤ k) : cutV (ns.map V.int) none (some k) = (ns.take k.toNat).map V.int := by
  have e : k = (k.toNat : Int) := by omega
  unfold cutV
  rw [HT.sIx_none, e, HT.sIx_nat, List.drop_zero, Nat.sub_zero, Int.toNat_natCast, List.map_take]
  rcases Nat.le_total k.toNat (ns.map V.int).length with hl | hl
  · rw [Nat.min_eq_left hl]
  · rw [Nat.min_eq_right hl, List.take_length, List.take_of_length_le hl]
theorem cut_from {ns : List Int} {k : Int} (h : 0 ≤ k) : cutV (ns.map V.int) (some k) none = (ns.drop k.toNat).map V.int := by
  have e : k = (k.toNat : Int) := by omega
  unfold cutV
  rw [HT.sIx_none, e, HT.sIx_nat, Int.toNat_natCast, List.map_drop]
  rcases Nat.le_total k.toNat (ns.map V.int).length with hl | hl
  · rw [Nat.min_eq_left hl]
    exact List.take_of_length_le (by rw [List.length_drop]; exact Nat.le_refl _)
  · rw [Nat.min_eq_right hl, List.drop_length, List.drop_of_length_le hl]
    simp
theorem sq_idx {n : Nat} {i : Int} (h0 : 0 ≤ i) (h1 : i < n) : seqIndex? i n = some i.toNat := (ixN_seq (by unfold ixN; rw [if_pos h0, if_pos h1])).1
structure BaseAt (H : Hp) (t : Addr) (kept spare : List Int) : Prop where
  ex : ∃ t1 t2, H t = some (.tup [.ref t1, .ref t2]) ∧ H t1 = some (.tup (kept.map V.int)) ∧ H t2 = some (.tup (spare.map V.int))
inductive isp_base_by (a : V) (H : Hp) (Q : VK) (E : XK) : Prop
  | mk (n : Int) (h0 : a = .int n) (q : ∀ kept spare t H', GoodBase kept spare → Same H H' → H t = none → BaseAt H' t kept spare → Q (.ref t) H') : isp_base_by a H Q E
noncomputable def sp_base_by : Sp := Sp1 (isp_base_by)
inductive isp_mixed (a b : V) (H : Hp) (Q : VK) (E : XK) : Prop
  | mk (n k : Int) (h0 : a = .int n) (h1 : b = .int k) (h2 : 0 ≤ k) (h3 : k ≤ 1000) (q : ∀ m : Int, 0 ≤ m → m < 998244353 → Q (.int m) H) : isp_mixed a b H Q E
noncomputable def sp_mixed : Sp := Sp2 (isp_mixed)
inductive isp_whole (a : V) (H : Hp) (Q : VK) (E : XK) : Prop
  | mk (n : Int) (h0 : a = .int n) (q : Q (.bl true) H) : isp_whole a H Q E
noncomputable def sp_whole : Sp := Sp1 (isp_whole)
theorem kit_ii (K : PySem.W.Frag) : PySem.W.kitOne K (.type "int") (.type "int") = some true := by kernel_rfl
theorem kit_ib (K : PySem.W.Frag) : PySem.W.kitOne K (.type "int") (.type "bool") = some false := by kernel_rfl
theorem kit_tt (K : PySem.W.Frag) : PySem.W.kitOne K (.type "tuple") (.type "tuple") = some true := by kernel_rfl
section
variable {K : PySem.W.Frag}
end
noncomputable def Bas (H : Hp) (a : V) (kept spare : List Int) : Prop := (∃ t, a = V.ref t ∧ BaseAt H t kept spare) ∧ GoodBase kept spare
theorem BaseAt.up {H H' : Hp} {t : Addr} {kept spare : List Int} (B : BaseAt H t kept spare) (S : Same H H') : BaseAt H' t kept spare := by
  obtain ⟨t1, t2, a, b, c⟩ := B.ex
  exact ⟨t1, t2, S _ _ a, S _ _ b, S _ _ c⟩
theorem Bas.up {H H' : Hp} {a : V} {kept spare : List Int} (B : Bas H a kept spare) (S : Same H H') : Bas H' a kept spare := by
  obtain ⟨⟨t, e, b⟩, g⟩ := B
  exact ⟨⟨t, e, b.up S⟩, g⟩
theorem GoodBase.ne {kept spare : List Int} (g : GoodBase kept spare) : kept.map V.int ≠ [] := fun z => by
  have := congrArg List.length z
  have := g.k1
  simp only [List.length_map, List.length_nil] at *
  omega
theorem GoodBase.room {kept spare : List Int} (g : GoodBase kept spare) : (kept.map V.int).length + (spare.map V.int).length ≤ sizeLine := by
  have h1 := g.k6
  have h2 := g.s4
  rw [List.length_map, List.length_map]
  exact Nat.le_trans (show _ ≤ 10 by omega) (by decide)
theorem GoodBase.many {kept spare : List Int} (g : GoodBase kept spare) : ((kept ++ spare).map V.int).length < sizeLine := by
  have h1 := g.k6
  have h2 := g.s4
  rw [List.length_map, List.length_append]
  exact Nat.lt_of_le_of_lt (show _ ≤ 10 by omega) (by decide)
theorem GoodBase.span {kept spare : List Int} (g : GoodBase kept spare) : 0 < prod kept := prod_pos fun d hd => (g.rng d (List.mem_append_left _ hd)).1
theorem ints_at {ns : List Int} {i : Nat} {x : V} (h : (ns.map V.int)[i]? = some x) : ∃ d, ns[i]? = some d ∧ x = .int d := by
  rw [List.getElem?_map] at h
  cases hi : ns[i]? with
  | none => rw [hi] at h; cases h
  | some d => rw [hi] at h; cases h; exact ⟨d, rfl, rfl⟩
noncomputable def Fits (kept : List Int) (n : Int) : Prop := lowest kept ≤ n ∧ n ≤ highest kept
noncomputable instance (kept : List Int) (n : Int) : Decidable (Fits kept n) := inferInstanceAs (Decidable (_ ∧ _))
noncomputable def restV (n : Int) : V → V
  | .int d => .int (n % d)
  | _ => .non
theorem rests_map (n : Int) (ds : List Int) : (ds.map V.int).map (restV n) = (rests ds n).map V.int := by
  unfold rests
  rw [List.map_map, List.map_map]; rfl
inductive isp_divs (a : V) (H : Hp) (Q : VK) (E : XK) : Prop
  | mk (kept : List Int) (spare : List Int) (h0 : Bas H a kept spare) (q : ∀ p H', Same H H' → H' p = some (.tup ((kept ++ spare).map V.int)) → Q (.ref p) H') : isp_divs a H Q E
noncomputable def sp_divs : Sp := Sp1 (isp_divs)
inductive isp_span (a : V) (H : Hp) (Q : VK) (E : XK) : Prop
  | mk (kept : List Int) (spare : List Int) (h0 : Bas H a kept spare) (q : Q (.int (prod kept)) H) : isp_span a H Q E
noncomputable def sp_span : Sp := Sp1 (isp_span)
inductive isp_low (a : V) (H : Hp) (Q : VK) (E : XK) : Prop
  | mk (kept : List Int) (spare : List Int) (h0 : Bas H a kept spare) (q : Q (.int (lowest kept)) H) : isp_low a H Q E
noncomputable def sp_low : Sp := Sp1 (isp_low)
inductive isp_high (a : V) (H : Hp) (Q : VK) (E : XK) : Prop
  | mk (kept : List Int) (spare : List Int) (h0 : Bas H a kept spare) (q : Q (.int (highest kept)) H) : isp_high a H Q E
noncomputable def sp_high : Sp := Sp1 (isp_high)
inductive isp_fits (a b : V) (H : Hp) (Q : VK) (E : XK) : Prop
  | mk (kept : List Int) (spare : List Int) (n : Int) (h0 : Bas H a kept spare) (h1 : b = .int n) (q : Q (.bl (decide (Fits kept n))) H) : isp_fits a b H Q E
noncomputable def sp_fits : Sp := Sp2 (isp_fits)
inductive isp_rests (a b : V) (H : Hp) (Q : VK) (E : XK) : Prop
  | mk (kept : List Int) (spare : List Int) (n : Int) (h0 : Bas H a kept spare) (h1 : b = .int n) (q : ∀ l H', Same H H' → H l = none → H' l = some (.lst ((rests (kept ++ spare) n).map V.int)) → Q (.ref l) H') : isp_rests a b H Q E
noncomputable def sp_rests : Sp := Sp2 (isp_rests)
inductive isp_cell_at (K : PySem.W.Frag) (a b : V) (H : Hp) (Q : VK) (E : XK) : Prop
  | mk (l : Addr) (ns : List Int) (i : Int) (h0 : a = .ref l) (h1 : b = .int i) (h2 : SqL K H l (ns.map V.int)) (h3 : 0 ≤ i) (q : ∀ m : Int, Q (.int m) H) : isp_cell_at K a b H Q E
noncomputable def sp_cell_at (K : PySem.W.Frag) : Sp := Sp2 (isp_cell_at K)
theorem kit_ll (K : PySem.W.Frag) : PySem.W.kitOne K (.type "list") (.type "list") = some true := by kernel_rfl
inductive isp_figure (cT : Addr) (a b : V) (H : Hp) (Q : VK) (E : XK) : Prop
  | mk (kept : List Int) (spare : List Int) (n : Int) (h0 : Bas H a kept spare) (h1 : b = .int n) (q : (Fits kept n → ∀ l H', Same H H' → H l = none → H' l = some (.lst ((rests (kept ++ spare) n).map V.int)) → Q (.ref l) H') ∧ (¬ Fits kept n → ∀ H', Same H H' → E (.ref cT) none H')) : isp_figure cT a b H Q E
noncomputable def sp_figure (cT : Addr) : Sp := Sp2 (isp_figure cT)
inductive isp_law (K : PySem.W.Frag) (a : V) (H : Hp) (Q : VK) (E : XK) : Prop
  | mk (l : Addr) (ns : List Int) (h0 : a = .ref l) (h1 : SqL K H l (ns.map V.int)) (h2 : ns.length ≤ 63) (q : ∀ H', Q (.bl true) H') : isp_law K a H Q E
noncomputable def sp_law (K : PySem.W.Frag) : Sp := Sp1 (isp_law K)
theorem md0 (a : Int) {n : Int} (h : 0 < n) : 0 ≤ a % n := Int.emod_nonneg _ (Int.ne_of_gt h)
theorem md1 (a : Int) {n : Int} (h : 0 < n) : a % n < n := Int.emod_lt_of_pos _ h
theorem atI_mod {ns : List Int} (a : Int) {m : Int} (hm : (ns.length : Int) = m) (h : 0 < m) : atI (ns.map V.int) (a % m) = some (.int (ns.getD (a % m).toNat 0)) := atI_ints (md0 a h) (by rw [hm]; exact md1 a h)
theorem pos1 {M : Int} (h : 1 ≤ M) : 0 < M := h
theorem nn1 {M : Int} (h : 1 ≤ M) : 0 ≤ M := Int.le_of_lt (pos1 h)
theorem many6 (a : Int) : 1 ≤ 1 + a % 6 ∧ 1 + a % 6 ≤ 6 := by omega
theorem le14 {M : Int} (h : M ≤ 6) (a : Int) : M + a % 5 ≤ ((14 : Nat) : Int) := by omega
theorem pos_len {M x : Int} (m1 : 1 ≤ M) {a : Int} (h : M + a % 5 < x) : 0 < x := by omega
theorem toNat_lt {x : Int} {n : Nat} (h0 : 0 ≤ x) (h1 : x < n) : x.toNat < n := by omega
theorem big_ix {x : Int} {n : Nat} (h0 : 0 ≤ x) (h1 : x < n) (hn : n ≤ 14) : -(2 ^ 63) ≤ x ∧ x < 2 ^ 63 := by omega
theorem sub1 {n : Nat} (h : 0 < (n : Int)) : n - 1 < n := by omega
theorem le_sub1 {x : Int} {n : Nat} (h : x < n) (h' : 0 < (n : Int)) : x ≤ ((n - 1 : Nat) : Int) := by omega
theorem cut_n {M a : Int} {len : Nat} (m1 : 1 ≤ M) (m2 : M ≤ 6) (h : (len : Int) = M + a % 5) : (1 ≤ M.toNat ∧ M.toNat ≤ 6) ∧ M.toNat ≤ len ∧ len ≤ M.toNat + 4 := by omega
theorem take_len (ns : List Int) (m k a : Nat) (h : ns.length ≤ 14) : (((ns.take m).drop a).map V.int).length + (((ns.take k).take a).map V.int).length ≤ sizeLine := by
  simp only [List.length_map, List.length_drop, List.length_take]
  have : (30 : Nat) ≤ sizeLine := by decide
  omega
end RF
set_option linter.all false
namespace RF
open PySem L2
end RF
set_option linter.all false
namespace RF
open PySem L2
inductive isp_prodT (a : V) (H : Hp) (Q : VK) (E : XK) : Prop
  | mk (t : Addr) (ds : List Int) (h0 : a = .ref t) (h1 : H t = some (.tup (ds.map V.int))) (h2 : (∀ d ∈ ds, 2 ≤ d ∧ d ≤ 1000000)) (q : Q (.int (prod ds)) H) : isp_prodT a H Q E
noncomputable def sp_prodT : Sp := Sp1 (isp_prodT)
end RF
set_option linter.all false
namespace RF
open PySem L2
end RF
set_option linter.all false
namespace RF
open PySem L2
theorem cut_mid {ns : List Int} {a b : Int} (ha : 0 ≤ a) (hb : 0 ≤ b) : cutV (ns.map V.int) (some a) (some b) = ((ns.take b.toNat).drop a.toNat).map V.int := by
  have ea : a = (a.toNat : Int) := by omega
  have eb : b = (b.toNat : Int) := by omega
  unfold cutV
  rw [ea, eb, HT.sIx_nat, HT.sIx_nat, Int.toNat_natCast, Int.toNat_natCast, List.map_drop, List.map_take, List.drop_take]
  generalize a.toNat = i
  generalize b.toNat = j
  rw [List.length_map]
  rcases Nat.le_total i ns.length with hi | hi
  · rw [Nat.min_eq_left hi]
    rcases Nat.le_total j ns.length with hj | hj
    · rw [Nat.min_eq_left hj]
    · rw [Nat.min_eq_right hj, List.take_of_length_le (by rw [List.length_drop, List.length_map]; omega), List.take_of_length_le (by rw [List.length_drop, List.length_map]; omega)]
  · rw [Nat.min_eq_right hi]
    simp [List.drop_of_length_le, hi]
end RF
set_option linter.all false
namespace RF
open PySem L2
theorem prod_le_pow : ∀ {l : List Int}, (∀ d ∈ l, 2 ≤ d ∧ d ≤ 1000000) → prod l ≤ 1000000 ^ l.length
  | [], _ => by decide
  | d :: r, h => by
    have hd := h d List.mem_cons_self
    have ih := prod_le_pow (l := r) fun e he => h e (List.mem_cons_of_mem _ he)
    have hp := prod_pos (l := r) fun e he => (h e (List.mem_cons_of_mem _ he)).1
    show d * prod r ≤ 1000000 ^ (r.length + 1)
    rw [Int.pow_succ, Int.mul_comm]
    have a := Int.mul_le_mul_of_nonneg_left hd.2 (show 0 ≤ prod r by omega)
    have b := Int.mul_le_mul_of_nonneg_right ih (show (0 : Int) ≤ 1000000 by decide)
    omega
theorem GoodBase.small {kept spare : List Int} (g : GoodBase kept spare) : prod kept < 2 ^ 120 := by
  have h := prod_le_pow (l := kept) fun d hd => g.rng d (List.mem_append_left _ hd)
  have k6 := g.k6
  have h2 : ∀ m : Nat, m < 7 → (1000000 : Int) ^ m ≤ 1000000 ^ 6 := by decide
  have h2 := h2 kept.length (by omega)
  have h3 : (1000000 : Int) ^ 6 < 2 ^ 120 := by decide
  omega
end RF
set_option linter.all false
namespace RF
open PySem L2
end RF
set_option linter.all false
namespace RF
open PySem L2
end RF
set_option linter.all false
namespace RF
open PySem L2 PyProof.Rows
end RF
set_option linter.all false
namespace RF
open PySem L2
end RF
set_option Elab.async false
set_option linter.all false
namespace L2
open PySem PySem.Spec PyProof.Rows
theorem binds5 {x : Str} {st : Stmt} {a b c d e : Str} (h : ∀ (kV doc pm : Value) (an : Option Addr) (cdv ct u0 u1 u2 u3 u4 : Value), bindArgs (PySem.W.fnOf x x (defArgs st) (defBody st) (defScope st) .none kV doc pm an cdv ct) ⟨[u0, u1, u2, u3, u4], []⟩ = pure [(a, u0), (b, u1), (c, u2), (d, u3), (e, u4)]) : BindsAll x st [a, b, c, d, e] :=
  fun kV doc pm an cdv ct us h0 => by
    obtain ⟨u0, t1, rfl, h1⟩ := len_cons h0
    obtain ⟨u1, t2, rfl, h2⟩ := len_cons h1
    obtain ⟨u2, t3, rfl, h3⟩ := len_cons h2
    obtain ⟨u3, t4, rfl, h4⟩ := len_cons h3
    obtain ⟨u4, t5, rfl, h5⟩ := len_cons h4
    obtain rfl := len_nil h5
    exact h kV doc pm an cdv ct u0 u1 u2 u3 u4
end L2
namespace RF
open PySem L2
inductive Sp5 (f : V → V → V → V → V → Hp → VK → XK → Prop) (vs : List V) (H : Hp) (Q : VK) (E : XK) : Prop
  | mk (a b c d e : V) (h0 : vs = [a, b, c, d, e]) (h : f a b c d e H Q E) : Sp5 f vs H Q E
theorem sp5_len {f : V → V → V → V → V → Hp → VK → XK → Prop} {a b c d e : Str} : ∀ vs H Q E, Sp5 f vs H Q E → vs.length = [a, b, c, d, e].length := fun _ _ _ _ ⟨_, _, _, _, _, e, _⟩ => by rw [e]; rfl
end RF
set_option linter.all false
namespace RF
open PySem L2
theorem hu1 {k : Nat} {A : Around} (hr : Room k A) : A.units + 1 < cLine := Nat.lt_of_le_of_lt (Nat.add_le_add_left (by decide) _) hr.units
noncomputable def Big (e : Nat) (x : Int) : Prop := x.natAbs < 2 ^ e
theorem Big.up {e e' : Nat} {x : Int} (h : Big e x) (he : e ≤ e') : Big e' x := Nat.lt_of_lt_of_le h (Nat.pow_le_pow_right (by decide) he)
theorem Big.add {e : Nat} {x y : Int} (h : Big e x) (h' : Big e y) : Big (e + 1) (x + y) := by
  unfold Big at *
  have := Int.natAbs_add_le x y
  rw [Nat.pow_succ]
  omega
theorem Big.sub {e : Nat} {x y : Int} (h : Big e x) (h' : Big e y) : Big (e + 1) (x - y) := by
  unfold Big at *
  have := Int.natAbs_sub_le x y
  rw [Nat.pow_succ]
  omega
theorem Big.mul {e : Nat} {x y : Int} (h : Big e x) (h' : Big e y) : Big (2 * e) (x * y) := by
  unfold Big at *
  rw [Int.natAbs_mul, Nat.two_mul, Nat.pow_add]
  exact Nat.mul_lt_mul'' h h'
theorem Big.div {e : Nat} {x d : Int} (h : Big e x) (hd : 0 < d) : Big (e + 1) (x / d) := by
  unfold Big at *
  rw [Nat.pow_succ]
  have h1 : x / d ≤ x.natAbs := Int.le_trans (Int.ediv_le_ediv hd (show x ≤ (x.natAbs : Int) by omega)) (Int.ediv_le_self _ (by omega))
  have h2 : -(x.natAbs : Int) - 1 ≤ x / d := by
    refine Int.le_of_sub_nonneg ?_
    have a : -(x.natAbs : Int) ≤ x := by omega
    have b := Int.ediv_le_ediv hd a
    have c : -(x.natAbs : Int) - 1 ≤ (-(x.natAbs : Int)) / d := by
      refine Int.le_ediv_of_mul_le hd ?_
      have : (x.natAbs : Int) ≤ ((x.natAbs : Int) + 1) * d := Int.le_trans (show (x.natAbs : Int) ≤ ((x.natAbs : Int) + 1) * 1 by omega) (Int.mul_le_mul_of_nonneg_left (by omega) (by omega))
      rw [show (-(x.natAbs : Int) - 1) * d = -(((x.natAbs : Int) + 1) * d) by rw [← Int.neg_mul]; congr 1; omega]
      omega
    omega
  have h0 : 1 ≤ 2 ^ e := Nat.one_le_two_pow
  omega
noncomputable def doneI (deed : Str) (x y : Int) : Int := if deed = "add" then x + y else if deed = "take" then x - y else x * y
inductive isp_doneP (a b c : V) (H : Hp) (Q : VK) (E : XK) : Prop
  | mk (deed : Str) (x y : Int) (e : Nat) (h0 : a = .str deed) (h1 : b = .int x) (h2 : c = .int y) (he : e ≤ 500000) (hx : Big e x) (hy : Big e y) (q : Q (.int (doneI deed x y)) H) : isp_doneP a b c H Q E
noncomputable def sp_doneP : Sp := Sp3 isp_doneP
inductive PR
  | inp (nm : Str) (lo hi : Int)
  | num (nm : Str) (v : Int)
  | div (nm l : Str) (d : Int)
  | two (deed nm l r : Str)
noncomputable def PR.name : PR → Str
  | .inp nm _ _ => nm
  | .num nm _ => nm
  | .div nm _ _ => nm
  | .two _ nm _ _ => nm
noncomputable def PR.vals : PR → List V
  | .inp nm lo hi => [.str "in", .str nm, .int lo, .int hi]
  | .num nm v => [.str "num", .str nm, .int v]
  | .div nm l d => [.str "div", .str nm, .str l, .int d]
  | .two deed nm l r => [.str deed, .str nm, .str l, .str r]
noncomputable abbrev Knw := Str → Option (Int × Int)
noncomputable def Knw.put (k : Knw) (nm : Str) (p : Int × Int) : Knw := fun x => if x = nm then some p else k x
noncomputable def IsEnds (e : List Int) (p : Int × Int) : Prop := p.1 ∈ e ∧ (∀ a ∈ e, p.1 ≤ a) ∧ p.2 ∈ e ∧ ∀ a ∈ e, a ≤ p.2
theorem IsEnds.uniq {e : List Int} {p q : Int × Int} (h : IsEnds e p) (h' : IsEnds e q) : p = q := by
  obtain ⟨a, b⟩ := p
  obtain ⟨c, d⟩ := q
  obtain ⟨h1, h2, h3, h4⟩ := h
  obtain ⟨g1, g2, g3, g4⟩ := h'
  have e1 : a = c := Int.le_antisymm (h2 c g1) (g2 a h1)
  have e2 : b = d := Int.le_antisymm (g4 b h3) (h4 d g3)
  rw [e1, e2]
noncomputable def four (deed : Str) (p q : Int × Int) : List Int := [doneI deed p.1 q.1, doneI deed p.1 q.2, doneI deed p.2 q.1, doneI deed p.2 q.2]
inductive RowEnds (k : Knw) : PR → Int × Int → Prop
  | inp (nm : Str) (lo hi : Int) : RowEnds k (.inp nm lo hi) (lo, hi)
  | num (nm : Str) (v : Int) : RowEnds k (.num nm v) (v, v)
  | div (nm l : Str) (d : Int) (p : Int × Int) (h : k l = some p) : RowEnds k (.div nm l d) (p.1 / d, p.2 / d)
  | two (deed nm l r : Str) (p q e : Int × Int) (h : k l = some p) (h' : k r = some q) (he : IsEnds (four deed p q) e) : RowEnds k (.two deed nm l r) e
inductive RowOk (k : Knw) : PR → Prop
  | inp (nm : Str) (lo hi : Int) (h : lo ≤ hi) : RowOk k (.inp nm lo hi)
  | num (nm : Str) (v : Int) : RowOk k (.num nm v)
  | div (nm l : Str) (d : Int) (h : (k l).isSome) (hd : 0 < d) (hl : d.natAbs.log2 < 9000) : RowOk k (.div nm l d)
  | two (deed nm l r : Str) (hd : deed = "add" ∨ deed = "take" ∨ deed = "mul") (h : (k l).isSome) (h' : (k r).isSome) : RowOk k (.two deed nm l r)
structure DEnds (H : Hp) (d : Addr) (k : Knw) (kvs : List (Key × V)) : Prop where
  at' : H d = some (.dK kvs)
  val : ∀ nm p, k nm = some p → ∃ t, valV kvs (Sum.inr nm) = some (.ref t) ∧ H t = some (.tup [.int p.1, .int p.2])
theorem DEnds.up {H H' : Hp} {d : Addr} {k : Knw} {kvs : List (Key × V)} (h : DEnds H d k kvs) (S : Same H H') : DEnds H' d k kvs :=
  ⟨S _ _ h.at', fun nm p e => by obtain ⟨t, e1, e2⟩ := h.val nm p e; exact ⟨t, e1, S _ _ e2⟩⟩
noncomputable def Knw.big (k : Knw) (e : Nat) : Prop := ∀ nm p, k nm = some p → Big e p.1 ∧ Big e p.2
inductive isp_row (a b : V) (H : Hp) (Q : VK) (E : XK) : Prop
  | mk (r : PR) (k : Knw) (kvs : List (Key × V)) (t d : Addr) (e : Nat) (h0 : a = .ref t) (h1 : b = .ref d) (h2 : H t = some (.tup r.vals)) (h3 : DEnds H d k kvs) (h4 : RowOk k r) (he : e ≤ 500000) (hb : k.big e)
      (q : ∀ p u H', Same H H' → RowEnds k r p → H' u = some (.tup [.int p.1, .int p.2]) → Q (.ref u) H') : isp_row a b H Q E
noncomputable def sp_row : Sp := Sp2 isp_row
theorem strOk_iff {z : Str} : PyData.strOk z = true ↔ ∀ c ∈ z.cps.toList, c < 0x110000 := by
  unfold PyData.strOk
  rw [← Array.all_toList, List.all_eq_true]
  exact ⟨fun h c hc => of_decide_eq_true (h c hc), fun h c hc => decide_eq_true (h c hc)⟩
theorem ok_in {z' z : Str} (h : StrIn z' z) (ok : PyData.strOk z = true) : PyData.strOk z' = true := strOk_iff.mpr fun c hc => strOk_iff.mp ok c (h c hc)
theorem ok_app {a b : Str} (ha : PyData.strOk a = true) (hb : PyData.strOk b = true) : PyData.strOk (a ++ b) = true := strOk_iff.mpr fun c hc => by
  have hc : c ∈ (a.cps ++ b.cps).toList := hc
  rw [Array.toList_append] at hc
  rcases List.mem_append.mp hc with z | z
  · exact strOk_iff.mp ha c z
  · exact strOk_iff.mp hb c z
theorem ok_one {z : Str} {c : Nat} (hc : c ∈ z.cps.toList) (ok : PyData.strOk z = true) : PyData.strOk ⟨#[c]⟩ = true := strOk_iff.mpr fun c' h => by
  have h : c' ∈ [c] := h
  rw [List.mem_singleton.mp h]
  exact strOk_iff.mp ok c hc
noncomputable def end4 (a b c d : Int) : Int × Int := (min a (min b (min c d)), max a (max b (max c d)))
theorem end4_is (a b c d : Int) : IsEnds [a, b, c, d] (end4 a b c d) := by
  have h1 : min a (min b (min c d)) = a ∨ min a (min b (min c d)) = b ∨ min a (min b (min c d)) = c ∨ min a (min b (min c d)) = d := by omega
  have h2 : max a (max b (max c d)) = a ∨ max a (max b (max c d)) = b ∨ max a (max b (max c d)) = c ∨ max a (max b (max c d)) = d := by omega
  refine ⟨?_, fun x hx => ?_, ?_, fun x hx => ?_⟩
  · show min a (min b (min c d)) ∈ _
    rcases h1 with h | h | h | h <;> rw [h] <;> simp
  · show min a (min b (min c d)) ≤ x
    simp at hx
    omega
  · show max a (max b (max c d)) ∈ _
    rcases h2 with h | h | h | h <;> rw [h] <;> simp
  · show x ≤ max a (max b (max c d))
    simp at hx
    omega
noncomputable def endsOf (k : Knw) : PR → Int × Int
  | .inp _ lo hi => (lo, hi)
  | .num _ v => (v, v)
  | .div _ l d => match k l with
    | some p => (p.1 / d, p.2 / d)
    | none => (0, 0)
  | .two deed _ l r => match k l, k r with
    | some p, some q => end4 (doneI deed p.1 q.1) (doneI deed p.1 q.2) (doneI deed p.2 q.1) (doneI deed p.2 q.2)
    | _, _ => (0, 0)
theorem endsOf_div {k : Knw} {nm l : Str} {d : Int} {p : Int × Int} (h : k l = some p) : endsOf k (.div nm l d) = (p.1 / d, p.2 / d) := by simp only [endsOf, h]
theorem endsOf_two {k : Knw} {deed nm l r : Str} {p q : Int × Int} (h : k l = some p) (h' : k r = some q) : endsOf k (.two deed nm l r) = end4 (doneI deed p.1 q.1) (doneI deed p.1 q.2) (doneI deed p.2 q.1) (doneI deed p.2 q.2) := by simp only [endsOf, h, h']
theorem RowEnds.eq {k : Knw} {r : PR} {p : Int × Int} (h : RowEnds k r p) : p = endsOf k r := by
  cases h with
  | inp => rfl
  | num => rfl
  | div nm l d p e => rw [endsOf_div e]
  | two deed nm l r p q e h1 h2 he => rw [endsOf_two h1 h2]; exact he.uniq (end4_is ..)
noncomputable def knows : Knw → List PR → Knw
  | k, [] => k
  | k, r :: rs => knows (k.put r.name (endsOf k r)) rs
noncomputable def tells : Knw → List PR → List (Str × Int × Int)
  | _, [] => []
  | k, r :: rs => (r.name, endsOf k r) :: tells (k.put r.name (endsOf k r)) rs
theorem knows_snoc (r : PR) : ∀ (k : Knw) (rs : List PR), knows k (rs ++ [r]) = (knows k rs).put r.name (endsOf (knows k rs) r)
  | _, [] => rfl
  | k, x :: rs => knows_snoc r (k.put x.name (endsOf k x)) rs
theorem tells_snoc (r : PR) : ∀ (k : Knw) (rs : List PR), tells k (rs ++ [r]) = tells k rs ++ [(r.name, endsOf (knows k rs) r)]
  | _, [] => rfl
  | k, x :: rs => congrArg (_ :: ·) (tells_snoc r (k.put x.name (endsOf k x)) rs)
noncomputable def nextB (e : Nat) : PR → Nat
  | .two deed _ _ _ => if deed = "mul" then 2 * e else e + 1
  | _ => e + 1
noncomputable def RowBig : PR → Prop
  | .inp _ lo hi => Big 130 lo ∧ Big 130 hi
  | .num _ v => Big 130 v
  | _ => True
theorem doneI_big {deed : Str} {e : Nat} {x y : Int} (hx : Big e x) (hy : Big e y) (hd : deed = "add" ∨ deed = "take" ∨ deed = "mul") : Big (nextB e (.two deed "" "" "")) (doneI deed x y) := by
  rcases hd with rfl | rfl | rfl
  · exact hx.add hy
  · exact hx.sub hy
  · exact hx.mul hy
theorem ends_big {k : Knw} {r : PR} {e : Nat} (ok : RowOk k r) (hr : RowBig r) (hb : k.big e) (h : 130 ≤ e) : Big (nextB e r) (endsOf k r).1 ∧ Big (nextB e r) (endsOf k r).2 := by
  cases ok with
  | inp nm lo hi _ => exact ⟨hr.1.up (by show 130 ≤ e + 1; omega), hr.2.up (by show 130 ≤ e + 1; omega)⟩
  | num nm v => exact ⟨Big.up (e := 130) hr (by show 130 ≤ e + 1; omega), Big.up (e := 130) hr (by show 130 ≤ e + 1; omega)⟩
  | div nm l d hl hd _ =>
    obtain ⟨p, hp⟩ := Option.isSome_iff_exists.mp hl
    have := hb l p hp
    rw [endsOf_div hp]
    exact ⟨this.1.div hd, this.2.div hd⟩
  | two deed nm l r hdd hl hr' =>
    obtain ⟨p, hp⟩ := Option.isSome_iff_exists.mp hl
    obtain ⟨q, hq⟩ := Option.isSome_iff_exists.mp hr'
    have bp := hb l p hp
    have bq := hb r q hq
    rw [endsOf_two hp hq]
    have all : ∀ a ∈ [doneI deed p.1 q.1, doneI deed p.1 q.2, doneI deed p.2 q.1, doneI deed p.2 q.2], Big (nextB e (.two deed nm l r)) a := fun a ha => by
      simp at ha
      rcases ha with rfl | rfl | rfl | rfl
      · exact doneI_big bp.1 bq.1 hdd
      · exact doneI_big bp.1 bq.2 hdd
      · exact doneI_big bp.2 bq.1 hdd
      · exact doneI_big bp.2 bq.2 hdd
    have is := end4_is (doneI deed p.1 q.1) (doneI deed p.1 q.2) (doneI deed p.2 q.1) (doneI deed p.2 q.2)
    exact ⟨all _ is.1, all _ is.2.2.1⟩
theorem nextB_le (e : Nat) (r : PR) (h : 130 ≤ e) : e ≤ nextB e r := by
  cases r with
  | two deed _ _ _ =>
    show e ≤ if deed = "mul" then 2 * e else e + 1
    by_cases hm : deed = "mul"
    · rw [if_pos hm]; omega
    · rw [if_neg hm]; omega
  | _ => exact Nat.le_succ e
theorem Knw.big_put {k : Knw} {e : Nat} {r : PR} (hb : k.big e) (h : 130 ≤ e) (ok : RowOk k r) (hr : RowBig r) : (k.put r.name (endsOf k r)).big (nextB e r) := fun nm p hp => by
  unfold Knw.put at hp
  split at hp
  · cases hp; exact ends_big ok hr hb h
  · have := hb nm p hp
    exact ⟨this.1.up (nextB_le e r h), this.2.up (nextB_le e r h)⟩
noncomputable def AllOk : Knw → List PR → Prop
  | _, [] => True
  | k, r :: rs => RowOk k r ∧ RowBig r ∧ AllOk (k.put r.name (endsOf k r)) rs
theorem AllOk.at {r : PR} : ∀ {k : Knw} {rs : List PR} {i : Nat}, AllOk k rs → rs[i]? = some r → RowOk (knows k (rs.take i)) r ∧ RowBig r
  | _, x :: rs, 0, h, e => by cases e; exact ⟨h.1, h.2.1⟩
  | _, x :: rs, i + 1, h, e => AllOk.at (rs := rs) h.2.2 (by simpa using e)
theorem knows_big : ∀ {rs : List PR} {k : Knw} {e : Nat}, 130 ≤ e → AllOk k rs → k.big e → (knows k rs).big (rs.foldl nextB e)
  | [], _, _, _, _, hb => hb
  | r :: rs, k, e, h, ok, hb => @knows_big rs _ (nextB e r) (Nat.le_trans h (nextB_le e r h)) ok.2.2 (Knw.big_put hb h ok.1 ok.2.1)
theorem AllOk.take : ∀ {k : Knw} {rs : List PR} (i : Nat), AllOk k rs → AllOk k (rs.take i)
  | _, [], i, _ => by rw [List.take_nil]; trivial
  | _, r :: rs, 0, _ => trivial
  | _, r :: rs, i + 1, h => ⟨h.1, h.2.1, AllOk.take i h.2.2⟩
inductive RowsAt (H : Hp) : List Addr → List PR → Prop
  | nil : RowsAt H [] []
  | cons {a : Addr} {r : PR} {as : List Addr} {rs : List PR} (h : H a = some (.tup r.vals)) (t : RowsAt H as rs) : RowsAt H (a :: as) (r :: rs)
theorem RowsAt.up {H H' : Hp} {as : List Addr} {rs : List PR} (h : RowsAt H as rs) (S : Same H H') : RowsAt H' as rs := by
  induction h with
  | nil => exact .nil
  | cons h _ ih => exact .cons (S _ _ h) ih
theorem RowsAt.at {H : Hp} {as : List Addr} {rs : List PR} (h : RowsAt H as rs) : ∀ {i : Nat} {a : Addr}, as[i]? = some a → ∃ r, rs[i]? = some r ∧ H a = some (.tup r.vals) := by
  induction h with
  | nil => intro i a e; cases e
  | cons h _ ih =>
    intro i a e
    cases i with
    | zero => cases e; exact ⟨_, rfl, h⟩
    | succ i => exact ih (by simpa using e)
theorem RowsAt.len {H : Hp} {as : List Addr} {rs : List PR} (h : RowsAt H as rs) : as.length = rs.length := by
  induction h with
  | nil => rfl
  | cons _ _ ih => rw [List.length_cons, List.length_cons, ih]
inductive ToldAt (H : Hp) : List Addr → List (Str × Int × Int) → Prop
  | nil : ToldAt H [] []
  | cons {a : Addr} {x : Str × Int × Int} {as : List Addr} {xs : List (Str × Int × Int)} (h : H a = some (.tup [.str x.1, .int x.2.1, .int x.2.2])) (t : ToldAt H as xs) : ToldAt H (a :: as) (x :: xs)
theorem ToldAt.up {H H' : Hp} {as : List Addr} {xs : List (Str × Int × Int)} (h : ToldAt H as xs) (S : Same H H') : ToldAt H' as xs := by
  induction h with
  | nil => exact .nil
  | cons h _ ih => exact .cons (S _ _ h) ih
theorem ToldAt.snoc {H : Hp} {as : List Addr} {xs : List (Str × Int × Int)} {a : Addr} {x : Str × Int × Int} (h : ToldAt H as xs) (ha : H a = some (.tup [.str x.1, .int x.2.1, .int x.2.2])) : ToldAt H (as ++ [a]) (xs ++ [x]) := by
  induction h with
  | nil => exact .cons ha .nil
  | cons h _ ih => exact .cons h ih
theorem ToldAt.upd {H : Hp} {as : List Addr} {xs : List (Str × Int × Int)} {o : HO} (h : ToldAt H as xs) (d : Addr) (hd : ∀ {ys : List V}, H d = some (.tup ys) → False) : ToldAt (L2.upd H d o) as xs := by
  induction h with
  | nil => exact .nil
  | @cons a x as xs h _ ih => exact .cons (by rw [upd_ne (fun z => hd (z ▸ h))]; exact h) ih
noncomputable def noneK : Knw := fun _ => none
inductive isp_bounds (a : V) (H : Hp) (Q : VK) (E : XK) : Prop
  | mk (l : Addr) (as : List Addr) (rs : List PR) (h0 : a = .ref l) (h1 : H l = some (.lst (as.map V.ref))) (h2 : RowsAt H as rs) (h3 : rs.length ≤ 60) (h4 : AllOk noneK rs) (h5 : ∀ i, (rs.take i).foldl nextB 130 ≤ 500000)
      (q : ∀ lt ts H', Same H H' → H lt = none → H' lt = some (.lst (ts.map V.ref)) → ToldAt H' ts (tells noneK rs) → Q (.ref lt) H') : isp_bounds a H Q E
noncomputable def sp_bounds : Sp := Sp1 isp_bounds
theorem ints_ref {as : List Addr} {i : Nat} {x : V} (h : (as.map V.ref)[i]? = some x) : ∃ a, as[i]? = some a ∧ x = .ref a := by
  rw [List.getElem?_map] at h
  cases e : as[i]? with
  | none => rw [e] at h; cases h
  | some a => rw [e] at h; cases h; exact ⟨a, rfl, rfl⟩
theorem DEnds.updL {H : Hp} {d l : Addr} {k : Knw} {kvs : List (Key × V)} {xs : List V} {o : HO} (h : DEnds H d k kvs) (hl : H l = some (.lst xs)) : DEnds (upd H l o) d k kvs :=
  ⟨by rw [upd_ne fun z => by have := h.at'; rw [z, hl] at this; cases this]; exact h.at', fun nm p e => by
    obtain ⟨t, e1, e2⟩ := h.val nm p e
    exact ⟨t, e1, by rw [upd_ne fun z => by rw [z, hl] at e2; cases e2]; exact e2⟩⟩
theorem DEnds.put {H : Hp} {d : Addr} {k : Knw} {kvs : List (Key × V)} (h : DEnds H d k kvs) {nm : Str} {p : Int × Int} {u : Addr} (hu : H u = some (.tup [.int p.1, .int p.2])) : DEnds (upd H d (.dK (putK kvs (Sum.inr nm) (.ref u)))) d (k.put nm p) (putK kvs (Sum.inr nm) (.ref u)) := by
  have nd : ∀ {t : Addr} {xs : List V}, H t = some (.tup xs) → t ≠ d := fun {t xs} e z => by rw [z, h.at'] at e; cases e
  refine ⟨upd_same, fun x q hx => ?_⟩
  unfold Knw.put at hx
  by_cases hn : x = nm
  · rw [if_pos hn] at hx
    cases hx
    subst hn
    exact ⟨u, by rw [valV_put, if_pos rfl], by rw [upd_ne (nd hu)]; exact hu⟩
  · rw [if_neg hn] at hx
    obtain ⟨t, e1, e2⟩ := h.val x q hx
    exact ⟨t, by rw [valV_put, if_neg fun z => hn (Sum.inr.inj z)]; exact e1, by rw [upd_ne (nd e2)]; exact e2⟩
noncomputable def valOf (f : Str → Option Int) : PR → Int
  | .inp nm _ _ => (f nm).getD 0
  | .num _ v => v
  | .div _ l d => (f l).getD 0 / d
  | .two deed _ l r => doneI deed ((f l).getD 0) ((f r).getD 0)
inductive VOk (f : Str → Option Int) : PR → Prop
  | num (nm : Str) (v : Int) : VOk f (.num nm v)
  | div (nm l : Str) (d x : Int) (h : f l = some x) (hd : 0 < d) (hl : d.natAbs.log2 < 9000) : VOk f (.div nm l d)
  | two (deed nm l r : Str) (x y : Int) (hd : deed = "add" ∨ deed = "take" ∨ deed = "mul") (h : f l = some x) (h' : f r = some y) : VOk f (.two deed nm l r)
inductive isp_value (a b : V) (H : Hp) (Q : VK) (E : XK) : Prop
  | mk (r : PR) (f : Str → Option Int) (kvs : List (Key × V)) (t d : Addr) (e : Nat) (h0 : a = .ref t) (h1 : b = .ref d) (h2 : H t = some (.tup r.vals)) (h3 : H d = some (.dK kvs)) (h4 : ∀ nm v, f nm = some v → valV kvs (Sum.inr nm) = some (.int v)) (h5 : VOk f r) (he : e ≤ 500000) (hb : ∀ nm v, f nm = some v → Big e v)
      (q : Q (.int (valOf f r)) H) : isp_value a b H Q E
noncomputable def sp_value : Sp := Sp2 isp_value
end RF
set_option linter.all false
namespace RF
open PySem L2
theorem mul_mid {a b x y : Int} (h1 : a ≤ x) (h2 : x ≤ b) : (a * y ≤ x * y ∨ b * y ≤ x * y) ∧ (x * y ≤ a * y ∨ x * y ≤ b * y) := by
  rcases Int.le_total 0 y with h | h
  · exact ⟨.inl (Int.mul_le_mul_of_nonneg_right h1 h), .inr (Int.mul_le_mul_of_nonneg_right h2 h)⟩
  · exact ⟨.inr (Int.mul_le_mul_of_nonpos_right h2 h), .inl (Int.mul_le_mul_of_nonpos_right h1 h)⟩
noncomputable def Mid (p : Int × Int) (x : Int) : Prop := p.1 ≤ x ∧ x ≤ p.2
theorem done_mid {deed : Str} {p q : Int × Int} {x y : Int} (hx : Mid p x) (hy : Mid q y) (hd : deed = "add" ∨ deed = "take" ∨ deed = "mul") : (∃ a ∈ four deed p q, a ≤ doneI deed x y) ∧ ∃ a ∈ four deed p q, doneI deed x y ≤ a := by
  obtain ⟨x1, x2⟩ := hx
  obtain ⟨y1, y2⟩ := hy
  have m0 : ∀ {d : Str}, doneI d p.1 q.1 ∈ four d p q := fun {d} => by simp [four]
  have m1 : ∀ {d : Str}, doneI d p.1 q.2 ∈ four d p q := fun {d} => by simp [four]
  have m2 : ∀ {d : Str}, doneI d p.2 q.1 ∈ four d p q := fun {d} => by simp [four]
  have m3 : ∀ {d : Str}, doneI d p.2 q.2 ∈ four d p q := fun {d} => by simp [four]
  rcases hd with rfl | rfl | rfl
  · refine ⟨⟨_, m0, ?_⟩, ⟨_, m3, ?_⟩⟩
    · show p.1 + q.1 ≤ x + y; omega
    · show x + y ≤ p.2 + q.2; omega
  · refine ⟨⟨_, m1, ?_⟩, ⟨_, m2, ?_⟩⟩
    · show p.1 - q.2 ≤ x - y; omega
    · show x - y ≤ p.2 - q.1; omega
  · have a := mul_mid (y := y) x1 x2
    have b := mul_mid (y := p.1) y1 y2
    have c := mul_mid (y := p.2) y1 y2
    rw [Int.mul_comm q.1 p.1, Int.mul_comm y p.1, Int.mul_comm q.2 p.1] at b
    rw [Int.mul_comm q.1 p.2, Int.mul_comm y p.2, Int.mul_comm q.2 p.2] at c
    constructor
    · rcases a.1 with h | h
      · rcases b.1 with h' | h'
        · exact ⟨_, m0, Int.le_trans h' h⟩
        · exact ⟨_, m1, Int.le_trans h' h⟩
      · rcases c.1 with h' | h'
        · exact ⟨_, m2, Int.le_trans h' h⟩
        · exact ⟨_, m3, Int.le_trans h' h⟩
    · rcases a.2 with h | h
      · rcases b.2 with h' | h'
        · exact ⟨_, m0, Int.le_trans h h'⟩
        · exact ⟨_, m1, Int.le_trans h h'⟩
      · rcases c.2 with h' | h'
        · exact ⟨_, m2, Int.le_trans h h'⟩
        · exact ⟨_, m3, Int.le_trans h h'⟩
theorem val_mid {f : Str → Option Int} {k : Knw} {r : PR} (hf : ∀ nm p, k nm = some p → ∃ x, f nm = some x ∧ Mid p x) (ok : RowOk k r) (hin : ∀ nm lo hi, r = .inp nm lo hi → Mid (lo, hi) (valOf f r)) : Mid (endsOf k r) (valOf f r) := by
  cases ok with
  | inp nm lo hi _ => exact hin nm lo hi rfl
  | num nm v => exact ⟨Int.le_refl _, Int.le_refl _⟩
  | div nm l d hl hd _ =>
    obtain ⟨p, hp⟩ := Option.isSome_iff_exists.mp hl
    obtain ⟨x, hx, m⟩ := hf l p hp
    rw [endsOf_div hp]
    show Mid _ ((f l).getD 0 / d)
    rw [hx]
    exact ⟨Int.ediv_le_ediv hd m.1, Int.ediv_le_ediv hd m.2⟩
  | two deed nm l r hdd hl hr' =>
    obtain ⟨p, hp⟩ := Option.isSome_iff_exists.mp hl
    obtain ⟨q, hq⟩ := Option.isSome_iff_exists.mp hr'
    obtain ⟨x, hx, mx⟩ := hf l p hp
    obtain ⟨y, hy, my⟩ := hf r q hq
    rw [endsOf_two hp hq]
    show Mid _ (doneI deed ((f l).getD 0) ((f r).getD 0))
    rw [hx, hy]
    have is := end4_is (doneI deed p.1 q.1) (doneI deed p.1 q.2) (doneI deed p.2 q.1) (doneI deed p.2 q.2)
    obtain ⟨⟨a, ha, h1⟩, ⟨b, hb, h2⟩⟩ := done_mid mx my hdd
    exact ⟨Int.le_trans (is.2.1 a ha) h1, Int.le_trans h2 (is.2.2.2 b hb)⟩
end RF
set_option Elab.async false
set_option linter.all false
set_option maxRecDepth 100000
set_option maxHeartbeats 4000000
namespace K20
open PySem L2 RF
seal L2.PE L2.PA L2.PS L2.PSs L2.PT L2.PG L2.PI L2.PK L2.PO L2.PEx L2.PSx L2.PSxs L2.PH L2.PW L2.PGs L2.OpR L2.CallR L2.SlR L2.IxR
noncomputable def top (i : Nat) : Stmt := PySem.Challenge.pw_restfigures_k20_whole_tidy_programs.main.body.getD i (.Pass ⟨0, 0, 0, 0⟩)
structure Txt (K : PySem.W.Frag) (mg : Str → Option Value) (cR cT cI cG : Addr) : Prop where
  len : mg "len" = none
  isinstance : mg "isinstance" = none
  sorted : mg "sorted" = none
  list : mg "list" = none
  tuple : mg "tuple" = none
  int : mg "int" = none
  bool : mg "bool" = none
  dict : mg "dict" = none
  zip : mg "zip" = none
  all : mg "all" = none
  min : mg "min" = none
  max : mg "max" = none
  range : mg "range" = none
  enumerate : mg "enumerate" = none
  ValueError : mg "ValueError" = none
  RestError : mg "RestError" = some (.ref cR)
  TooGreat : mg "TooGreat" = some (.ref cT)
  x_TooGreat : PySem.W.excIn K cT bmV "ValueError.__new__" = true
  BadInput : mg "BadInput" = some (.ref cI)
  x_BadInput : PySem.W.excIn K cI bmV "ValueError.__new__" = true
  RowTooGreat : mg "RowTooGreat" = some (.ref cG)
section
variable {P : Program} {w : World} {K : PySem.W.Frag} {mg : Str → Option Value} {base : Heap} {cR cT cI cG : Addr}
noncomputable abbrev s__law_mixed : Stmt := top 28
theorem sc__law_mixed : FnScope ["_law_number", "_law_k", "_law_once"] ["_law_number", "_law_k"] (defScope s__law_mixed) := ⟨rfl, rfl, rfl, by decide +kernel, rfl, by decide +kernel, by decide +kernel⟩
theorem b__law_mixed : BindsAll "_law_mixed" s__law_mixed ["_law_number", "_law_k"] := binds2 fun _ _ _ _ _ _ _ _ => rfl
theorem ok_mixed (D : Def K mg "_law_mixed" s__law_mixed) : FnS P w K mg base "_law_mixed" ["_law_number", "_law_k"] 1 sp_mixed := by
  refine D.ok sc__law_mixed b__law_mixed sp2_len fun f cdv A outer s H vs Q E hr h => ?_
  obtain ⟨_, _, rfl, n, j, rfl, rfl, h0, h1, k⟩ := h
  refine ⟨_, (pss_cons (ps_set (i := 2) sc__law_mixed.nd rfl (Or.inl rfl) (pe_op op_mod (pe_op op_mul (pe_op op_add (pe_op op_add (pe_op op_mod (pv 0) pe_int) (pe_op op_mul pe_int (pv 1))) pe_int) pe_int) pe_int))
      (pss_one (ps_ret (pe_op op_mod (pe_op op_mul (pv 2) (pe_op op_add (pe_op op_add (pe_op op_mod (pv 2) pe_int) (pv 1)) pe_int)) pe_int)))), ?_⟩
  try (set_option simprocs false in dsimp only [cxOf])
  refine ⟨_, rfl, _, _, rfl, rfl, (by show (0 : Int) < 1000000007; decide), _, rfl, _, _, rfl, rfl, .inl ⟨by decide, by decide⟩, _, _, rfl, rfl, _, _, rfl, rfl, _, _, rfl, rfl, .inr ⟨by decide, by decide⟩, _, _, rfl, rfl, (by show (0 : Int) < 2147483647; decide), ?_⟩
  refine ⟨_, rfl, _, rfl, _, _, rfl, rfl, (by show (0 : Int) < 1009; decide), _, rfl, _, _, rfl, rfl, _, _, rfl, rfl, _, _, rfl, rfl, .inl ⟨by show -(2 ^ 64) < (n % 1000000007 + 7 * j + 1) * 48271 % 2147483647; omega, by show (n % 1000000007 + 7 * j + 1) * 48271 % 2147483647 < 2 ^ 64; omega⟩, _, _, rfl, rfl, (by show (0 : Int) < 998244353; decide), ?_⟩
  exact k _ (Int.emod_nonneg _ (by decide)) (Int.emod_lt_of_pos _ (by decide))
noncomputable abbrev s__law_base_by : Stmt := top 30
theorem sc__law_base_by : FnScope ["_law_number", "_law_some", "_law_many", "_law_more", "_law_at", "_law_first", "_law_last"] ["_law_number"] (defScope s__law_base_by) := ⟨rfl, rfl, rfl, by decide +kernel, rfl, by decide +kernel, by decide +kernel⟩
theorem b__law_base_by : BindsAll "_law_base_by" s__law_base_by ["_law_number"] := binds1 fun _ _ _ _ _ _ _ => rfl
theorem ok_base_by (D : Def K mg "_law_base_by" s__law_base_by) (T : Txt K mg cR cT cI cG) (F__law_mixed : FnS P w K mg base "_law_mixed" ["_law_number", "_law_k"] 1 sp_mixed) : FnS P w K mg base "_law_base_by" ["_law_number"] 2 sp_base_by := by
  refine D.ok sc__law_base_by b__law_base_by sp1_len fun f cdv A outer s H vs Q E hr h => ?_
  obtain ⟨_, rfl, n, rfl, k⟩ := h
  refine ⟨_, (pss_cons (ps_set (i := 1) sc__law_base_by.nd rfl (Or.inl rfl) (pe_lst (ac (pe_ix ix0L (pe_lst (ac pe_int (ac pe_int (ac pe_int (ac pe_int pa_nil))))) (pe_op op_mod (pv 0) pe_int) (fun _ _ => rfl)) (ac (pe_ix ix0L (pe_lst (ac pe_int (ac pe_int (ac pe_int pa_nil)))) (pe_op op_mod (pe_op op_fdiv (pv 0) pe_int) pe_int) (fun _ _ => rfl)) (ac (pe_ix ix0L (pe_lst (ac pe_int (ac pe_int (ac pe_int pa_nil)))) (pe_op op_mod (pe_op op_fdiv (pv 0) pe_int) pe_int) (fun _ _ => rfl)) pa_nil)))))
      (pss_cons (ps_set (i := 1) sc__law_base_by.nd rfl (Or.inl rfl) (cBi call_sorted (by rfl) T.sorted PyProof.Rows.Boot.«sorted» (ac (pe_op op0catS (pv 1) (pe_lst (ac pe_int (ac pe_int (ac pe_int (ac pe_int (ac pe_int (ac pe_int (ac pe_int (ac pe_int (ac pe_int (ac pe_int (ac pe_int pa_nil))))))))))))) pa_nil)))
      (pss_cons (ps_set (i := 2) sc__law_base_by.nd rfl (Or.inl rfl) (pe_op op_add pe_int (pe_op op_mod (pe_op op_fdiv (pv 0) pe_int) pe_int)))
      (pss_cons (ps_set (i := 3) sc__law_base_by.nd rfl (Or.inl rfl) (cFn F__law_mixed hr passes0 (ac (pv 0) (ac pe_int pa_nil))))
      (pss_cons (ps_while own_pass (pt_cmpR op_gt (cBi call0len (by rfl) T.len PyProof.Rows.Boot.«len» (ac (pv 1) pa_nil)) (pe_op op_add (pv 2) (pe_op op_mod (pe_op op_fdiv (pv 0) pe_int) pe_int)) (nomark _))
        (pss_cons (ps_expr (pe_bm PySem.F.plainAttrs_list PySem.F.slot_list_pop PySem.F.type_list_pop mt_popAt (pv 1) (ac (pe_op op_mod (pv 3) (cBi call0len (by rfl) T.len PyProof.Rows.Boot.«len» (ac (pv 1) pa_nil))) pa_nil)))
        (pss_one (ps_set (i := 3) sc__law_base_by.nd rfl (Or.inl rfl) (cFn F__law_mixed hr passes0 (ac (pv 3) (ac pe_int pa_nil)))))))
      (pss_cons (ps_set (i := 4) sc__law_base_by.nd rfl (Or.inl rfl) (pe_op op_mod (pe_op op_fdiv (pv 3) pe_int) (pv 2)))
      (pss_cons (ps_set (i := 5) sc__law_base_by.nd rfl (Or.inl rfl) (pe_slice sl0L (pv 1) po_none (po_some (pv 2))))
      (pss_cons (ps_set (i := 6) sc__law_base_by.nd rfl (Or.inl rfl) (pe_slice sl0L (pv 1) (po_some (pv 2)) po_none))
      (pss_cons (ps_if (pt_cmpR op_eq (pe_op op_mod (pv 3) pe_int) pe_int (nomark _))
        (pss_one (ps_expr (pe_bm0 PySem.F.plainAttrs_list PySem.F.slot_list_reverse PySem.F.type_list_reverse mt_reverse (pv 6))))
        pss_nil)
      (pss_one (ps_ret (pe_tup (ac (cTy call_tuple_of (by rfl) T.tuple PyProof.Rows.Boot.«tuple» (ac (pe_op op0catS (pe_slice sl0L (pv 5) (po_some (pv 4)) po_none) (pe_slice sl0L (pv 5) po_none (po_some (pv 4)))) pa_nil)) (ac (cTy call_tuple_of (by rfl) T.tuple PyProof.Rows.Boot.«tuple» (ac (pv 6) pa_nil)) pa_nil)))))))))))))), ?_⟩
  try (set_option simprocs false in dsimp only [cxOf])
  refine ⟨by decide, fun p1 h1 => ⟨_, rfl, _, _, rfl, rfl, (by show (0 : Int) < 4; decide), p1, _, _, _, rfl, rfl, SqL.of upd_same, atI_mod (ns := [2, 4, 8, 64]) n rfl (by decide), ?_⟩⟩
  refine ⟨by decide, fun p2 h2 => ⟨_, rfl, _, _, rfl, rfl, ⟨by decide, by decide⟩, _, _, rfl, rfl, (by show (0 : Int) < 3; decide), p2, _, _, _, rfl, rfl, SqL.of upd_same, atI_mod (ns := [3, 9, 27]) (n / 4) rfl (by decide), ?_⟩⟩
  refine ⟨by decide, fun p3 h3 => ⟨_, rfl, _, _, rfl, rfl, ⟨by decide, by decide⟩, _, _, rfl, rfl, (by show (0 : Int) < 3; decide), p3, _, _, _, rfl, rfl, SqL.of upd_same, atI_mod (ns := [5, 25, 625]) (n / 12) rfl (by decide), ?_⟩⟩
  refine ⟨(by show 3 ≤ sizeLine; decide), fun p4 h4 => ?_⟩
  refine ⟨_, rfl, by decide, fun p5 h5 => ⟨p4, p5, _, _, rfl, rfl, SqL.of (by rw [upd_ne (by rintro rfl; rw [upd_same] at h5; cases h5)]; exact upd_same), SqL.of upd_same, (by show 3 + 11 ≤ sizeLine; decide), fun p6 h6 => ?_⟩⟩
  refine ⟨p6, rawSome n, rfl, SqL.of upd_same, (by show 14 < 64; decide), fun l L h7 hp hs => ?_⟩
  obtain ⟨l2, lc, lr, l14⟩ := sorted_ok hp hs
  have hl0 : H l = none := ((((((Same.new h1).trans (Same.new h2)).trans (Same.new h3)).trans (Same.new h4)).trans (Same.new h5)).trans (Same.new h6)).free h7
  have S2 := ((((((Same.new h1).trans (Same.new h2)).trans (Same.new h3)).trans (Same.new h4)).trans (Same.new h5)).trans (Same.new h6)).trans (Same.new (o := .lst (L.map V.int)) h7)
  revert S2
  generalize hG : upd _ l _ = G
  intro S2
  have hGl : G l = some (.lst (L.map V.int)) := by rw [← hG]; exact upd_same
  clear hG h1 h2 h3 h4 h5 h6 h7
  refine ⟨_, rfl, _, _, rfl, rfl, ⟨by decide, by decide⟩, _, _, rfl, rfl, (by show (0 : Int) < 6; decide), _, _, rfl, rfl, ?_⟩
  obtain ⟨M, hM⟩ : ∃ M : Int, M = 1 + n / 36 % 6 := ⟨_, rfl⟩
  have m1 : 1 ≤ M := hM ▸ (many6 (n / 36)).1
  have m2 : M ≤ 6 := hM ▸ (many6 (n / 36)).2
  refine ⟨_, rfl, _, _, rfl, n, 1, rfl, rfl, by decide, by decide, fun mo mo0 _ => ?_⟩
  refine ⟨fun m σ H' => ∃ (ns : List Int) (mo : Int), σ = [some (.int n), some (.ref l), some (.int M), some (.int mo), none, none, none] ∧ H' l = some (.lst (ns.map V.int)) ∧ Same H H' ∧ ns.Sublist L ∧ M + n / 216 % 5 ≤ ns.length ∧ 0 ≤ mo ∧ m = ns.length,
    ⟨_, L, mo, by rw [hM]; rfl, hGl, S2, List.Sublist.refl L, by rw [l14]; exact le14 m2 _, mo0, rfl⟩, ?_⟩
  · rintro m σ H3 ⟨ns, mo, rfl, hH3, S3, sub, hlen, mo0, rfl⟩
    have hn14 : ns.length ≤ 14 := by rw [← l14]; exact sub.length_le
    refine ⟨_, rfl, l, _, rfl, .inl (SqL.of hH3), _, rfl, _, rfl, _, _, rfl, rfl, ⟨by decide, by decide⟩, _, _, rfl, rfl, (by show (0 : Int) < 5; decide), _, _, rfl, rfl, _, _, rfl, rfl, _, rfl, ?_⟩
    rw [List.length_map]
    by_cases hgt : M + n / 216 % 5 < (ns.length : Int)
    · rw [decide_eq_true hgt]
      refine iteT ⟨_, fun _ _ h => h, ?_⟩
      have hpos := pos_len m1 hgt
      have hmod0 := md0 mo hpos
      have hmod1 := md1 mo hpos
      have hlt := toNat_lt hmod0 hmod1
      have hget : (ns.map V.int)[(mo % (ns.length : Int)).toNat]? = some (.int (ns.getD (mo % (ns.length : Int)).toNat 0)) := by
        rw [List.getElem?_map, List.getElem?_eq_getElem hlt]
        simp [hlt]
      refine ⟨_, rfl, .inl ⟨rfl, _, SqL.of hH3⟩, _, rfl, _, rfl, l, _, rfl, .inl (SqL.of hH3), _, _, rfl, rfl, (by show (0 : Int) < ((ns.map V.int).length : Int); rw [List.length_map]; exact hpos), ?_⟩
      rw [List.length_map]
      refine ⟨l, _, _, _, _, rfl, rfl, hH3, (big_ix hmod0 hmod1 hn14).1, (big_ix hmod0 hmod1 hn14).2, by rw [List.length_map]; exact sq_idx hmod0 hmod1, hget, ?_⟩
      refine ⟨_, rfl, _, _, rfl, mo, 2, rfl, rfl, by decide, by decide, fun mo' mo0' _ => ?_⟩
      have he : (ns.map V.int).eraseIdx (mo % (ns.length : Int)).toNat = (ns.eraseIdx (mo % (ns.length : Int)).toNat).map V.int := map_erase _ _
      have hle : (ns.eraseIdx (mo % (ns.length : Int)).toNat).length = ns.length - 1 := List.length_eraseIdx_of_lt hlt
      exact ⟨_, by rw [hle]; exact sub1 hpos, ns.eraseIdx (mo % (ns.length : Int)).toNat, mo', rfl, by rw [upd_same, he], S3.upd hl0, (List.eraseIdx_sublist _ _).trans sub, by rw [hle]; exact le_sub1 hgt hpos, mo0', rfl⟩
    · rw [decide_eq_false hgt]
      refine iteF ?_
      have hsp : (ns.length : Int) = M + n / 216 % 5 := Int.le_antisymm (Int.not_lt.mp hgt) hlen
      have cn := cut_n m1 m2 hsp
      refine ⟨_, rfl, _, _, rfl, rfl, ⟨by decide, by decide⟩, _, rfl, _, _, rfl, rfl, pos1 m1, ?_⟩
      have a0 := md0 (mo / 2) (pos1 m1)
      refine ⟨_, rfl, _, rfl, _, rfl, l, _, rfl, SqL.of hH3, fun q1 g1 => ?_⟩
      rw [cut_to (nn1 m1)]
      have nq1 : l ≠ q1 := ne_of_none hH3 g1
      refine ⟨_, rfl, _, rfl, _, rfl, l, _, rfl, SqL.of (by rw [upd_ne nq1]; exact hH3), fun q2 g2 => ?_⟩
      rw [cut_from (nn1 m1)]
      have q1q2 : q1 ≠ q2 := by rintro rfl; rw [upd_same] at g2; cases g2
      have S4 : Same H (upd (upd H3 q1 (.lst ((ns.take M.toNat).map V.int))) q2 (.lst ((ns.drop M.toNat).map V.int))) := (S3.trans (Same.new g1)).trans (Same.new g2)
      have hq1 : H q1 = none := S3.free g1
      have hq2 : H q2 = none := (S3.trans (Same.new g1)).free g2
      have good : ∀ rev : Bool, GoodBase ((ns.take M.toNat).drop (mo / 2 % M).toNat ++ (ns.take M.toNat).take (mo / 2 % M).toNat) (if rev then (ns.drop M.toNat).reverse else ns.drop M.toNat) := fun rev =>
        good_cut (fun d hd => l2 d (sub.subset hd)) (lc.sublist sub) (lr.sublist sub) cn.1.1 cn.1.2 cn.2.1 cn.2.2
      have fin : ∀ (rev : Bool) (H5 : Hp), Same H H5 → H5 q1 = some (.lst ((ns.take M.toNat).map V.int)) → H5 q2 = some (.lst ((if rev then (ns.drop M.toNat).reverse else ns.drop M.toNat).map V.int)) →
          (tRet (tTup (tCons (tCB (fun xs H Q => ∃ p ys, xs = [V.ref p] ∧ ((SqL K H p ys ∧ ∀ l, H l = none → Q (V.ref l) (upd H l (.tup ys))) ∨ (SqT K H p ys ∧ Q (V.ref p) H))) (tCons (tOp (rCatS []) (tSl (rSlL []) (tVar 5) (tPart (tVar 4)) tNoPart) (tSl (rSlL []) (tVar 5) tNoPart (tPart (tVar 4)))) tNil)) (tCons (tCB (fun xs H Q => ∃ p ys, xs = [V.ref p] ∧ ((SqL K H p ys ∧ ∀ l, H l = none → Q (V.ref l) (upd H l (.tup ys))) ∨ (SqT K H p ys ∧ Q (V.ref p) H))) (tCons (tVar 6) tNil)) tNil))) { nx := fun _ H' => Q .non H', rt := Q } [some (.int n), some (.ref l), some (.int M), some (.int mo), some (.int (mo / 2 % M)), some (.ref q1), some (.ref q2)] H5) := by
        intro rev H5 S5 e1 e2
        refine ⟨_, rfl, _, rfl, _, rfl, q1, _, rfl, SqL.of e1, fun r1 k1 => ?_⟩
        rw [cut_from a0]
        have n1 : q1 ≠ r1 := ne_of_none e1 k1
        refine ⟨_, rfl, _, rfl, _, rfl, q1, _, rfl, SqL.of (by rw [upd_ne n1]; exact e1), fun r2 k2 => ?_⟩
        rw [cut_to a0]
        have n2 : r1 ≠ r2 := by rintro rfl; rw [upd_same] at k2; cases k2
        refine ⟨r1, r2, _, _, rfl, rfl, SqL.of (by rw [upd_ne n2]; exact upd_same), SqL.of upd_same, ?_, fun r3 k3 => ?_⟩
        · exact take_len ns M.toNat M.toNat _ hn14
        rw [← List.map_append]
        refine ⟨r3, _, rfl, .inl ⟨SqL.of upd_same, fun t1 k4 => ?_⟩⟩
        have S6' := (((Same.new k1).trans (Same.new k2)).trans (Same.new k3)).trans (Same.new (o := .tup (((ns.take M.toNat).drop (mo / 2 % M).toNat ++ (ns.take M.toNat).take (mo / 2 % M).toNat).map V.int)) k4)
        have S6 := S5.trans S6'
        refine ⟨_, rfl, q2, _, rfl, .inl ⟨SqL.of (S6' _ _ e2), fun t2 k5 => ?_⟩⟩
        refine ⟨(by show 2 ≤ sizeLine; decide), fun t k6 => ?_⟩
        have n5 : t1 ≠ t2 := by rintro rfl; rw [upd_same] at k5; cases k5
        have n6 : t2 ≠ t := by rintro rfl; rw [upd_same] at k6; cases k6
        have n7 : t1 ≠ t := by rintro rfl; rw [upd_ne n5, upd_same] at k6; cases k6
        have S7 := (S6.trans (Same.new (o := .tup ((if rev then (ns.drop M.toNat).reverse else ns.drop M.toNat).map V.int)) k5))
        exact k _ _ t _ (good rev) (S7.trans (Same.new k6)) (S7.free k6) ⟨t1, t2, upd_same, by rw [upd_ne n7, upd_ne n5, upd_same], by rw [upd_ne n6, upd_same]⟩
      refine ⟨_, rfl, _, _, rfl, rfl, (by show (0 : Int) < 2; decide), rfl, _, rfl, ?_⟩
      refine ite2 (fun _ => ?_) (fun _ => ?_)
      · refine ⟨_, rfl, .inl ⟨rfl, _, SqL.of upd_same⟩, q2, _, rfl, rfl, upd_same, ?_⟩
        rw [← List.map_reverse]
        exact fin true _ (S4.upd hq2) (by rw [upd_ne q1q2, upd_ne q1q2, upd_same]) upd_same
      · exact fin false _ S4 (by rw [upd_ne q1q2, upd_same]) upd_same
noncomputable abbrev s__law_span : Stmt := top 31
theorem sc__law_span : FnScope ["_law_base", "_law_size", "_law_one"] ["_law_base"] (defScope s__law_span) := ⟨rfl, rfl, rfl, by decide +kernel, rfl, by decide +kernel, by decide +kernel⟩
theorem b__law_span : BindsAll "_law_span" s__law_span ["_law_base"] := binds1 fun _ _ _ _ _ _ _ => rfl
theorem ok__law_span (D : Def K mg "_law_span" s__law_span) : FnS P w K mg base "_law_span" ["_law_base"] 1 sp_span := by
  refine D.ok sc__law_span b__law_span sp1_len fun f cdv A outer s H vs Q E hr h => ?_
  obtain ⟨_, rfl, kept, spare, ⟨⟨t, rfl, B⟩, gb⟩, k⟩ := h
  refine ⟨_, (pss_cons (ps_set (i := 1) sc__law_span.nd rfl (Or.inl rfl) pe_int)
      (pss_cons (ps_for own_pass rfl (pi_tup (pe_ix ix0T (pv 0) pe_int (fun _ _ => rfl))) (pg_name (i := 2) sc__law_span.nd rfl (Or.inl rfl))
        (pss_one (ps_set (i := 1) sc__law_span.nd rfl (Or.inl rfl) (pe_op op_mul (pv 1) (pv 2)))))
      (pss_one (ps_ret (pv 1))))), ?_⟩
  try (set_option simprocs false in dsimp only [cxOf])
  obtain ⟨t1, t2, e0, e1, e2⟩ := B.ex
  refine ⟨_, rfl, t, _, _, _, rfl, rfl, SqT.of e0, rfl, t1, rfl, ⟨_, SqT.of e1⟩, for_tup (K := K) (xs := kept.map V.int) (fun i σ H' => ∃ (p : Int) (y : Option V), σ = [some (.ref t), some (.int p), y] ∧ H' = H ∧ p = prod (kept.take i))
    ⟨1, none, rfl, rfl, rfl⟩ (fun i σ H' _ ⟨_, _, _, e, _⟩ => by rw [e]; exact SqT.of e1) ?_ ?_⟩
  · rintro i x σ _ hx ⟨p, y, rfl, rfl, e⟩
    obtain ⟨d, hi, rfl⟩ := ints_at hx
    have h2 := gb.rng d (List.mem_append_left _ (List.mem_of_getElem? hi))
    exact ⟨_, rfl, _, rfl, _, _, rfl, rfl, .inr ⟨by show -(2 ^ 64) < d; omega, by show d < 2 ^ 64; omega⟩, _, _, rfl, rfl, by rw [take_succ_prod hi, e]⟩
  · rintro σ _ ⟨p, y, rfl, rfl, e⟩
    rw [List.length_map, List.take_length] at e
    subst e
    exact ⟨_, rfl, k⟩
noncomputable abbrev s__law_cell_at : Stmt := top 27
theorem sc__law_cell_at : FnScope ["_law_script", "_law_k"] ["_law_script", "_law_k"] (defScope s__law_cell_at) := ⟨rfl, rfl, rfl, by decide +kernel, rfl, by decide +kernel, by decide +kernel⟩
theorem b__law_cell_at : BindsAll "_law_cell_at" s__law_cell_at ["_law_script", "_law_k"] := binds2 fun _ _ _ _ _ _ _ _ => rfl
theorem ok_cell_at (D : Def K mg "_law_cell_at" s__law_cell_at) (T : Txt K mg cR cT cI cG) : FnS P w K mg base "_law_cell_at" ["_law_script", "_law_k"] 1 (sp_cell_at K) := by
  refine D.ok sc__law_cell_at b__law_cell_at sp2_len fun f cdv A outer s H vs Q E hr h => ?_
  obtain ⟨_, _, rfl, l, ns, i, rfl, rfl, hq, h0, k⟩ := h
  refine ⟨_, (pss_cons (ps_if (pt_cmpR op_lt (pv 1) (cBi call_len_seq (by rfl) T.len PyProof.Rows.Boot.«len» (ac (pv 0) pa_nil)) (nomark _))
        (pss_one (ps_ret (pe_ix ix_list (pv 0) (pv 1) (fun _ _ => rfl))))
        pss_nil)
      (pss_one (ps_ret pe_int))), ?_⟩
  try (set_option simprocs false in dsimp only [cxOf])
  refine ⟨_, rfl, _, rfl, l, _, rfl, .inl hq, _, _, rfl, rfl, _, rfl, ?_⟩
  rw [List.length_map]
  by_cases hl : i < (ns.length : Int)
  · rw [decide_eq_true hl]
    exact iteT ⟨_, rfl, _, rfl, l, _, _, _, rfl, rfl, hq, atI_ints h0 hl, k _⟩
  · rw [decide_eq_false hl]
    exact iteF (k 0)
noncomputable abbrev s_divisors_of : Stmt := top 6
theorem sc_divisors_of : FnScope ["base"] ["base"] (defScope s_divisors_of) := ⟨rfl, rfl, rfl, by decide +kernel, rfl, by decide +kernel, by decide +kernel⟩
theorem b_divisors_of : BindsAll "divisors_of" s_divisors_of ["base"] := binds1 fun _ _ _ _ _ _ _ => rfl
theorem ok_divisors_of (D : Def K mg "divisors_of" s_divisors_of) : FnS P w K mg base "divisors_of" ["base"] 1 sp_divs := by
  refine D.ok sc_divisors_of b_divisors_of sp1_len fun f cdv A outer s H vs Q E hr h => ?_
  obtain ⟨_, rfl, kept, spare, ⟨⟨t, rfl, B⟩, gb⟩, k⟩ := h
  refine ⟨_, (pss_one (ps_ret (pe_op op0catT (pe_ix ix0T (pv 0) pe_int (fun _ _ => rfl)) (pe_ix ix0T (pv 0) pe_int (fun _ _ => rfl))))), ?_⟩
  try (set_option simprocs false in dsimp only [cxOf])
  obtain ⟨t1, t2, e0, e1, e2⟩ := B.ex
  refine ⟨_, rfl, t, _, _, _, rfl, rfl, SqT.of e0, rfl, _, rfl, t, _, _, _, rfl, rfl, SqT.of e0, rfl, t1, t2, _, _, rfl, rfl, SqT.of e1, SqT.of e2, gb.ne, gb.room, fun hs => ?_, fun _ p hp => ?_⟩
  · have hs : spare = [] := List.map_eq_nil_iff.mp hs
    subst hs
    exact k t1 H (Same.refl H) (by rw [List.append_nil]; exact e1)
  · exact k p _ (Same.new hp) (by rw [List.map_append]; exact upd_same)
noncomputable abbrev s_product_of : Stmt := top 7
theorem sc_product_of : FnScope ["numbers", "product", "number"] ["numbers"] (defScope s_product_of) := ⟨rfl, rfl, rfl, by decide +kernel, rfl, by decide +kernel, by decide +kernel⟩
theorem b_product_of : BindsAll "product_of" s_product_of ["numbers"] := binds1 fun _ _ _ _ _ _ _ => rfl
theorem ok_product_of (D : Def K mg "product_of" s_product_of) : FnS P w K mg base "product_of" ["numbers"] 1 sp_prodT := by
  refine D.ok sc_product_of b_product_of sp1_len fun f cdv A outer s H vs Q E hr h => ?_
  obtain ⟨_, rfl, t, ds, rfl, e1, rng, k⟩ := h
  refine ⟨_, (pss_cons (ps_set (i := 1) sc_product_of.nd rfl (Or.inl rfl) pe_int)
      (pss_cons (ps_for own_pass rfl (pi_tup (pv 0)) (pg_name (i := 2) sc_product_of.nd rfl (Or.inl rfl))
        (pss_one (ps_set (i := 1) sc_product_of.nd rfl (Or.inl rfl) (pe_op op_mul (pv 1) (pv 2)))))
      (pss_one (ps_ret (pv 1))))), ?_⟩
  try (set_option simprocs false in dsimp only [cxOf])
  refine ⟨_, rfl, t, rfl, ⟨_, SqT.of e1⟩, for_tup (K := K) (xs := ds.map V.int) (fun i σ H' => ∃ (p : Int) (y : Option V), σ = [some (.ref t), some (.int p), y] ∧ H' = H ∧ p = prod (ds.take i))
    ⟨1, none, rfl, rfl, rfl⟩ (fun i σ H' _ ⟨_, _, _, e, _⟩ => by rw [e]; exact SqT.of e1) ?_ ?_⟩
  · rintro i x σ _ hx ⟨p, y, rfl, rfl, e⟩
    obtain ⟨d, hi, rfl⟩ := ints_at hx
    have h2 := rng d (List.mem_of_getElem? hi)
    exact ⟨_, rfl, _, rfl, _, _, rfl, rfl, .inr ⟨by show -(2 ^ 64) < d; omega, by show d < 2 ^ 64; omega⟩, _, _, rfl, rfl, by rw [take_succ_prod hi, e]⟩
  · rintro σ _ ⟨p, y, rfl, rfl, e⟩
    rw [List.length_map, List.take_length] at e
    subst e
    exact ⟨_, rfl, k⟩
noncomputable abbrev s_span_of : Stmt := top 8
theorem sc_span_of : FnScope ["base"] ["base"] (defScope s_span_of) := ⟨rfl, rfl, rfl, by decide +kernel, rfl, by decide +kernel, by decide +kernel⟩
theorem b_span_of : BindsAll "span_of" s_span_of ["base"] := binds1 fun _ _ _ _ _ _ _ => rfl
theorem ok_span_of (D : Def K mg "span_of" s_span_of) (F_product_of : FnS P w K mg base "product_of" ["numbers"] 1 sp_prodT) : FnS P w K mg base "span_of" ["base"] 2 sp_span := by
  refine D.ok sc_span_of b_span_of sp1_len fun f cdv A outer s H vs Q E hr h => ?_
  obtain ⟨_, rfl, kept, spare, ⟨⟨t, rfl, B⟩, gb⟩, k⟩ := h
  refine ⟨_, (pss_one (ps_ret (cFn F_product_of hr passes0 (ac (pe_ix ix0T (pv 0) pe_int (fun _ _ => rfl)) pa_nil)))), ?_⟩
  try (set_option simprocs false in dsimp only [cxOf])
  obtain ⟨t1, t2, e0, e1, e2⟩ := B.ex
  exact ⟨_, rfl, t, _, _, _, rfl, rfl, SqT.of e0, rfl, _, rfl, t1, kept, rfl, e1, fun d hd => gb.rng d (List.mem_append_left _ hd), k⟩
noncomputable abbrev s_lowest : Stmt := top 9
theorem sc_lowest : FnScope ["base"] ["base"] (defScope s_lowest) := ⟨rfl, rfl, rfl, by decide +kernel, rfl, by decide +kernel, by decide +kernel⟩
theorem b_lowest : BindsAll "lowest" s_lowest ["base"] := binds1 fun _ _ _ _ _ _ _ => rfl
theorem ok_lowest (D : Def K mg "lowest" s_lowest) (F_span_of : FnS P w K mg base "span_of" ["base"] 2 sp_span) : FnS P w K mg base "lowest" ["base"] 3 sp_low := by
  refine D.ok sc_lowest b_lowest sp1_len fun f cdv A outer s H vs Q E hr h => ?_
  obtain ⟨_, rfl, kept, spare, B, k⟩ := h
  refine ⟨_, (pss_one (ps_ret (pe_un un_neg (pe_op op_fdiv (pe_op op_sub (cFn F_span_of hr passes0 (ac (pv 0) pa_nil)) pe_int) pe_int)))), ?_⟩
  try (set_option simprocs false in dsimp only [cxOf])
  exact ⟨_, rfl, _, rfl, kept, spare, B, _, _, rfl, rfl, _, _, rfl, rfl, ⟨by decide, by decide⟩, _, rfl, k⟩
noncomputable abbrev s_highest : Stmt := top 10
theorem sc_highest : FnScope ["base"] ["base"] (defScope s_highest) := ⟨rfl, rfl, rfl, by decide +kernel, rfl, by decide +kernel, by decide +kernel⟩
theorem b_highest : BindsAll "highest" s_highest ["base"] := binds1 fun _ _ _ _ _ _ _ => rfl
theorem ok_highest (D : Def K mg "highest" s_highest) (F_span_of : FnS P w K mg base "span_of" ["base"] 2 sp_span) : FnS P w K mg base "highest" ["base"] 3 sp_high := by
  refine D.ok sc_highest b_highest sp1_len fun f cdv A outer s H vs Q E hr h => ?_
  obtain ⟨_, rfl, kept, spare, B, k⟩ := h
  refine ⟨_, (pss_one (ps_ret (pe_op op_fdiv (cFn F_span_of hr passes0 (ac (pv 0) pa_nil)) pe_int))), ?_⟩
  try (set_option simprocs false in dsimp only [cxOf])
  exact ⟨_, rfl, _, rfl, kept, spare, B, _, _, rfl, rfl, ⟨by decide, by decide⟩, k⟩
noncomputable abbrev s_fits : Stmt := top 11
theorem sc_fits : FnScope ["base", "number"] ["base", "number"] (defScope s_fits) := ⟨rfl, rfl, rfl, by decide +kernel, rfl, by decide +kernel, by decide +kernel⟩
theorem b_fits : BindsAll "fits" s_fits ["base", "number"] := binds2 fun _ _ _ _ _ _ _ _ => rfl
theorem ok_fits (D : Def K mg "fits" s_fits) (F_lowest : FnS P w K mg base "lowest" ["base"] 3 sp_low) (F_highest : FnS P w K mg base "highest" ["base"] 3 sp_high) : FnS P w K mg base "fits" ["base", "number"] 4 sp_fits := by
  refine D.ok sc_fits b_fits sp2_len fun f cdv A outer s H vs Q E hr h => ?_
  obtain ⟨_, _, rfl, kept, spare, n, B, rfl, k⟩ := h
  refine ⟨_, (pss_one (ps_ret (pe_chain op_le op_le (cFn F_lowest hr passes0 (ac (pv 0) pa_nil)) (pv 1) (cFn F_highest hr passes0 (ac (pv 0) pa_nil))))), ?_⟩
  try (set_option simprocs false in dsimp only [cxOf])
  refine ⟨_, rfl, _, rfl, kept, spare, B, _, rfl, _, _, rfl, rfl, _, rfl, ?_⟩
  by_cases h1 : RF.lowest kept ≤ n
  · rw [decide_eq_true h1]
    refine iteT ⟨_, rfl, _, rfl, kept, spare, B, _, _, rfl, rfl, ?_⟩
    have e : decide (n ≤ RF.highest kept) = decide (Fits kept n) := decide_eq_decide.mpr ⟨fun h => ⟨h1, h⟩, fun h => h.2⟩
    show Q (.bl (decide (n ≤ RF.highest kept))) H
    rw [e]; exact k
  · rw [decide_eq_false h1]
    refine iteF ?_
    have e : false = decide (Fits kept n) := (decide_eq_false fun h => h1 h.1).symm
    show Q (.bl false) H
    rw [e]; exact k
noncomputable abbrev s_rests_of : Stmt := top 14
theorem sc_rests_of : FnScope ["base", "number"] ["base", "number"] (defScope s_rests_of) := ⟨rfl, rfl, rfl, by decide +kernel, rfl, by decide +kernel, by decide +kernel⟩
theorem b_rests_of : BindsAll "rests_of" s_rests_of ["base", "number"] := binds2 fun _ _ _ _ _ _ _ _ => rfl
theorem ok_rests_of (D : Def K mg "rests_of" s_rests_of) (F_divisors_of : FnS P w K mg base "divisors_of" ["base"] 1 sp_divs) : FnS P w K mg base "rests_of" ["base", "number"] 2 sp_rests := by
  refine D.ok sc_rests_of b_rests_of sp2_len fun f cdv A outer s H vs Q E hr h => ?_
  obtain ⟨_, _, rfl, kept, spare, n, B, rfl, k⟩ := h
  refine ⟨_, (pss_one (ps_ret (pe_comp (lv := 1) (caps := [1]) (N' := ["divisor", "number"]) rfl (CompOk.caps (sc := defScope s_rests_of) rfl (by decide +kernel) (by decide +kernel) (by decide +kernel) rfl rfl (compcap1 rfl rfl rfl)) (keep_name (by decide)) (pi_tup (cFn F_divisors_of hr passes0 (ac (pv 0) pa_nil))) (fun _ _ _ _ => pg_name (i := 0) (show (["divisor", "number"] : List Str).Nodup by decide +kernel) rfl (Or.inl rfl)) (fun _ _ _ _ => (pe_op op_mod (pv 1) (pv 0)))))), ?_⟩
  try (set_option simprocs false in dsimp only [cxOf])
  refine ⟨_, rfl, _, rfl, kept, spare, B, fun p H1 S1 e1 => ⟨p, rfl, ⟨_, SqT.of e1⟩, comp_T (K := K) (SqT.of e1) B.2.many (restV n) ?_ ?_⟩⟩
  · intro x hx H' Q' S q
    obtain ⟨d, hd, rfl⟩ := List.mem_map.mp hx
    have h2 := B.2.rng d hd
    exact ⟨_, rfl, _, rfl, _, _, rfl, rfl, (by show 0 < d; omega), q _ (Same.refl _)⟩
  · intro D H' hD S e
    exact k D H' (S1.trans S) (S1.free hD) (by rw [e, rests_map])
noncomputable abbrev s_figure_of : Stmt := top 13
theorem sc_figure_of : FnScope ["base", "number"] ["base", "number"] (defScope s_figure_of) := ⟨rfl, rfl, rfl, by decide +kernel, rfl, by decide +kernel, by decide +kernel⟩
theorem b_figure_of : BindsAll "figure_of" s_figure_of ["base", "number"] := binds2 fun _ _ _ _ _ _ _ _ => rfl
theorem ok_figure_of (D : Def K mg "figure_of" s_figure_of) (T : Txt K mg cR cT cI cG) (F_fits : FnS P w K mg base "fits" ["base", "number"] 4 sp_fits) (F_rests_of : FnS P w K mg base "rests_of" ["base", "number"] 2 sp_rests) : FnS P w K mg base "figure_of" ["base", "number"] 5 (sp_figure cT) := by
  refine D.ok sc_figure_of b_figure_of sp2_len fun f cdv A outer s H vs Q E hr h => ?_
  obtain ⟨_, _, rfl, kept, spare, n, B, rfl, yes, no⟩ := h
  refine ⟨_, (pss_cons (ps_if (pt_not (pt_val (cFn F_fits hr passes0 (ac (pv 0) (ac (pv 1) pa_nil)))))
        (pss_one (ps_raise T.x_TooGreat T.TooGreat (ac pe_str pa_nil)))
        pss_nil)
      (pss_one (ps_ret (cFn F_rests_of hr passes0 (ac (pv 0) (ac (pv 1) pa_nil)))))), ?_⟩
  try (set_option simprocs false in dsimp only [cxOf])
  refine ⟨_, rfl, _, rfl, _, _, rfl, kept, spare, n, B, rfl, _, rfl, ?_⟩
  by_cases hf : Fits kept n
  · rw [decide_eq_true hf]
    exact iteF ⟨_, rfl, _, rfl, _, _, rfl, kept, spare, n, B, rfl, yes hf⟩
  · rw [decide_eq_false hf]
    exact iteT ⟨by decide, no hf H (Same.refl H)⟩
noncomputable abbrev s__law_figure : Stmt := top 32
theorem sc__law_figure : FnScope ["_law_base", "_law_number"] ["_law_base", "_law_number"] (defScope s__law_figure) := ⟨rfl, rfl, rfl, by decide +kernel, rfl, by decide +kernel, by decide +kernel⟩
theorem b__law_figure : BindsAll "_law_figure" s__law_figure ["_law_base", "_law_number"] := binds2 fun _ _ _ _ _ _ _ _ => rfl
theorem ok_law_figure (D : Def K mg "_law_figure" s__law_figure) : FnS P w K mg base "_law_figure" ["_law_base", "_law_number"] 1 sp_rests := by
  refine D.ok sc__law_figure b__law_figure sp2_len fun f cdv A outer s H vs Q E hr h => ?_
  obtain ⟨_, _, rfl, kept, spare, n, ⟨⟨t, rfl, B⟩, gb⟩, rfl, k⟩ := h
  refine ⟨_, (pss_one (ps_ret (pe_comp (lv := 1) (caps := [1]) (N' := ["_law_one", "_law_number"]) rfl (CompOk.caps (sc := defScope s__law_figure) rfl (by decide +kernel) (by decide +kernel) (by decide +kernel) rfl rfl (compcap1 rfl rfl rfl)) (keep_name (by decide)) (pi_tup (pe_op op0catT (pe_ix ix0T (pv 0) pe_int (fun _ _ => rfl)) (pe_ix ix0T (pv 0) pe_int (fun _ _ => rfl)))) (fun _ _ _ _ => pg_name (i := 0) (show (["_law_one", "_law_number"] : List Str).Nodup by decide +kernel) rfl (Or.inl rfl)) (fun _ _ _ _ => (pe_op op_mod (pv 1) (pv 0)))))), ?_⟩
  try (set_option simprocs false in dsimp only [cxOf])
  obtain ⟨t1, t2, e0, e1, e2⟩ := B.ex
  have go : ∀ p H1, Same H H1 → H1 p = some (.tup ((kept ++ spare).map V.int)) → compW (Itt K p) (gName 0) (tOp (rI (fun _ j => 0 < j) fun i j => V.int (i % j)) (tVar 1) (tVar 0)) (seen 1 [1] [some (.ref t), some (.int n)]) Q H1 := fun p H1 S1 e1 => by
    refine comp_T (K := K) (SqT.of e1) gb.many (restV n) ?_ ?_
    · intro x hx H' Q' S q
      obtain ⟨d, hd, rfl⟩ := List.mem_map.mp hx
      have h2 := gb.rng d hd
      exact ⟨_, rfl, _, rfl, _, _, rfl, rfl, (by show 0 < d; omega), q _ (Same.refl _)⟩
    · intro D H' hD S e
      exact k D H' (S1.trans S) (S1.free hD) (by rw [e, rests_map])
  refine ⟨_, rfl, t, _, _, _, rfl, rfl, SqT.of e0, rfl, _, rfl, t, _, _, _, rfl, rfl, SqT.of e0, rfl, t1, t2, _, _, rfl, rfl, SqT.of e1, SqT.of e2, gb.ne, gb.room, fun hs => ?_, fun _ p hp => ?_⟩
  · have hs : spare = [] := List.map_eq_nil_iff.mp hs
    subst hs
    exact ⟨t1, rfl, ⟨_, SqT.of e1⟩, go t1 H (Same.refl H) (by rw [List.append_nil]; exact e1)⟩
  · exact ⟨p, rfl, ⟨_, SqT.of upd_same⟩, go p _ (Same.new hp) (by rw [List.map_append]; exact upd_same)⟩
noncomputable abbrev s__law_whole : Stmt := top 29
theorem sc__law_whole : FnScope ["_law_found"] ["_law_found"] (defScope s__law_whole) := ⟨rfl, rfl, rfl, by decide +kernel, rfl, by decide +kernel, by decide +kernel⟩
theorem b__law_whole : BindsAll "_law_whole" s__law_whole ["_law_found"] := binds1 fun _ _ _ _ _ _ _ => rfl
theorem ok_whole (D : Def K mg "_law_whole" s__law_whole) (T : Txt K mg cR cT cI cG) : FnS P w K mg base "_law_whole" ["_law_found"] 1 sp_whole := by
  refine D.ok sc__law_whole b__law_whole sp1_len fun f cdv A outer s H vs Q E hr h => ?_
  obtain ⟨_, rfl, n, rfl, k⟩ := h
  refine ⟨_, (pss_one (ps_ret (pe_and (cBi call_isi (by rfl) T.isinstance PyProof.Rows.Boot.«isinstance» (ac (pv 0) (ac (pe_ty rfl T.int PyProof.Rows.Boot.«int») pa_nil))) (pe_one (pe_not (cBi call_isi (by rfl) T.isinstance PyProof.Rows.Boot.«isinstance» (ac (pv 0) (ac (pe_ty rfl T.bool PyProof.Rows.Boot.«bool») pa_nil)))))))), ?_⟩
  try (set_option simprocs false in dsimp only [cxOf])
  refine ⟨_, rfl, _, _, _, _, rfl, TyOf.int n, kit_ii K, _, rfl, iteT ?_⟩
  exact ⟨_, rfl, _, _, _, _, rfl, TyOf.int n, kit_ib K, _, rfl, k⟩
end
end K20
set_option Elab.async false
set_option linter.all false
set_option maxRecDepth 100000
set_option maxHeartbeats 4000000
namespace K20
open PySem L2 RF
seal L2.PE L2.PA L2.PS L2.PSs L2.PT L2.PG L2.PI L2.PK L2.PO L2.PEx L2.PSx L2.PSxs L2.PH L2.PW L2.PGs L2.OpR L2.CallR L2.SlR L2.IxR
section
variable {P : Program} {w : World} {K : PySem.W.Frag} {mg : Str → Option Value} {base : Heap} {cR cT cI cG : Addr}
theorem iteE {c : Bool} {A B : Prop} (h1 : c = true → A) (h2 : c = false → B) : if c = true then A else B := by
  cases c
  · rw [if_neg Bool.false_ne_true]; exact h2 rfl
  · rw [if_pos rfl]; exact h1 rfl
theorem iteFe {c : Bool} {A B : Prop} (h : c = false) (b : B) : if c = true then A else B := by rw [if_neg (by rw [h]; exact Bool.false_ne_true)]; exact b
noncomputable def doneV (deed : Str) (x : Int) : V → V
  | .int y => .int (doneI deed x y)
  | _ => .non
theorem str_of {a b : Str} (h : decide (V.str a = V.str b) = true) : a = b := V.str.inj (of_decide_eq_true h)
theorem str_no {a b : Str} (h : decide (V.str a = V.str b) = false) : a ≠ b := fun e => of_decide_eq_false h (congrArg V.str e)
noncomputable abbrev s_done : Stmt := top 20
theorem sc_done : FnScope ["deed", "one", "other"] ["deed", "one", "other"] (defScope s_done) := ⟨rfl, rfl, rfl, by decide +kernel, rfl, by decide +kernel, by decide +kernel⟩
theorem b_done : BindsAll "done" s_done ["deed", "one", "other"] := binds3 fun _ _ _ _ _ _ _ _ _ => rfl
theorem ok_done (D : Def K mg "done" s_done) : FnS P w K mg base "done" ["deed", "one", "other"] 1 sp_doneP := by
  refine D.ok sc_done b_done sp3_len fun f cdv A outer s H vs Q E hr h => ?_
  obtain ⟨_, _, _, rfl, deed, x, y, e, rfl, rfl, rfl, he, hx, hy, q⟩ := h
  refine ⟨_, (pss_cons (ps_if (pt_cmpR op_eq (pv 0) pe_str (nomark _))
        (pss_one (ps_ret (pe_op op_add (pv 1) (pv 2))))
        pss_nil)
      (pss_cons (ps_if (pt_cmpR op_eq (pv 0) pe_str (nomark _))
        (pss_one (ps_ret (pe_op op_sub (pv 1) (pv 2))))
        pss_nil)
      (pss_one (ps_ret (pe_op op_mulC (pv 1) (pv 2)))))), ?_⟩
  try (set_option simprocs false in dsimp only [cxOf])
  unfold doneI at q
  refine ⟨_, rfl, rfl, _, rfl, iteE (fun h => ?_) (fun h => ?_)⟩
  · rw [if_pos (str_of h)] at q
    exact ⟨_, rfl, _, rfl, _, _, rfl, rfl, q⟩
  rw [if_neg (str_no h)] at q
  refine ⟨_, rfl, rfl, _, rfl, iteE (fun h => ?_) (fun h => ?_)⟩
  · rw [if_pos (str_of h)] at q
    exact ⟨_, rfl, _, rfl, _, _, rfl, rfl, q⟩
  rw [if_neg (str_no h)] at q
  exact ⟨_, rfl, _, rfl, _, _, rfl, rfl, ⟨e, he, hx, hy⟩, q⟩
noncomputable def letters : List Nat := (Str.ofString "abcdefghijklmnopqrstuvwxyz").cps.toList
noncomputable def xyz : List Nat := (Str.ofString "xyz").cps.toList
noncomputable def NameOf (st k : Int) (z : Str) : Prop := ∃ c1 c2 c3 : Nat, atI letters (st / 56 % 26) = some c1 ∧ atI letters (k % 26) = some c2 ∧ atI xyz (k / 26) = some c3 ∧
  z = cutS (repS ⟨#[c1]⟩ (st % 7)) none (some (st / 7 % (st % 7 + 1))) ++ ⟨#[c2]⟩ ++ ⟨#[c3]⟩ ++ cutS (repS ⟨#[c1]⟩ (st % 7)) (some (st / 7 % (st % 7 + 1))) none
theorem atI_at {xs : List Nat} {i : Int} {c : Nat} (h0 : 0 ≤ i) (h : atI xs i = some c) : xs[i.toNat]? = some c := by
  unfold atI ixN at h
  rw [if_pos h0] at h
  split at h
  · exact h
  · cases h
theorem letters_at {i j : Nat} {c : Nat} (hi : i < 26) (hj : j < 26) (h1 : letters[i]? = some c) (h2 : letters[j]? = some c) : i = j := by
  have e : ∀ k : Nat, k < 26 → letters[k]? = some (97 + k) := by decide +kernel
  rw [e i hi] at h1; rw [e j hj] at h2
  have := h1.trans h2.symm
  simp at this
  exact this
theorem xyz_at {i j : Nat} {c : Nat} (hi : i < 3) (hj : j < 3) (h1 : xyz[i]? = some c) (h2 : xyz[j]? = some c) : i = j := by
  have e : ∀ k : Nat, k < 3 → xyz[k]? = some (120 + k) := by decide +kernel
  rw [e i hi] at h1; rw [e j hj] at h2
  have := h1.trans h2.symm
  simp at this
  exact this
theorem NameOf.inj {st k k' : Int} {z : Str} (h : NameOf st k z) (h' : NameOf st k' z) (k0 : 0 ≤ k) (k1 : k < 78) (l0 : 0 ≤ k') (l1 : k' < 78) : k = k' := by
  obtain ⟨c1, c2, c3, e1, e2, e3, e⟩ := h
  obtain ⟨d1, d2, d3, f1, f2, f3, f⟩ := h'
  rw [e1] at f1; cases f1
  rw [e] at f
  generalize cutS (repS ⟨#[c1]⟩ (st % 7)) none (some (st / 7 % (st % 7 + 1))) = A at f
  generalize cutS (repS ⟨#[c1]⟩ (st % 7)) (some (st / 7 % (st % 7 + 1))) none = B at f
  have fl : A.cps.toList ++ [c2] ++ [c3] ++ B.cps.toList = A.cps.toList ++ [d2] ++ [d3] ++ B.cps.toList := by
    have := congrArg (fun x : Str => x.cps.toList) f
    have g : ∀ a b : Str, (a ++ b).cps.toList = a.cps.toList ++ b.cps.toList := fun a b => Array.toList_append ..
    simp only [g] at this
    exact this
  rw [List.append_assoc, List.append_assoc, List.append_assoc, List.append_assoc] at fl
  have fl := List.append_cancel_left fl
  simp only [List.cons_append, List.nil_append, List.cons.injEq] at fl
  obtain ⟨rfl, rfl, _⟩ := fl
  have a := letters_at (by omega) (by omega) (atI_at (Int.emod_nonneg _ (by decide)) e2) (atI_at (Int.emod_nonneg _ (by decide)) f2)
  have b := xyz_at (by omega) (by omega) (atI_at (by omega) e3) (atI_at (by omega) f3)
  omega
inductive isp_nameN (a b : V) (H : Hp) (Q : VK) (E : XK) : Prop
  | mk (s k : Int) (h0 : a = .int s) (h1 : b = .int k) (h2 : 0 ≤ s) (h3 : 0 ≤ k) (h4 : k < 78) (q : ∀ z : Str, PyData.strOk z = true → NameOf s k z → Q (.str z) H) : isp_nameN a b H Q E
noncomputable def sp_nameN : Sp := Sp2 isp_nameN
noncomputable abbrev s__law_name_by : Stmt := top 33
theorem sc__law_name_by : FnScope ["_law_style", "_law_k", "_law_letters", "_law_size", "_law_at", "_law_stem"] ["_law_style", "_law_k"] (defScope s__law_name_by) := ⟨rfl, rfl, rfl, by decide +kernel, rfl, by decide +kernel, by decide +kernel⟩
theorem b__law_name_by : BindsAll "_law_name_by" s__law_name_by ["_law_style", "_law_k"] := binds2 fun _ _ _ _ _ _ _ _ => rfl
theorem atI_some {xs : List Nat} {i : Int} (h0 : 0 ≤ i) (h1 : i < xs.length) : ∃ c ∈ xs, atI xs i = some c := by
  have hl : i.toNat < xs.length := by omega
  refine ⟨xs[i.toNat], List.getElem_mem hl, ?_⟩
  unfold atI ixN
  rw [if_pos h0, if_pos (by omega)]
  exact List.getElem?_eq_getElem hl
theorem ok_name (D : Def K mg "_law_name_by" s__law_name_by) : FnS P w K mg base "_law_name_by" ["_law_style", "_law_k"] 1 sp_nameN := by
  refine D.ok sc__law_name_by b__law_name_by sp2_len fun f cdv A outer s H vs Q E hr h => ?_
  obtain ⟨_, _, rfl, st, k, rfl, rfl, s0, k0, k1, q⟩ := h
  refine ⟨_, (pss_cons (ps_set (i := 2) sc__law_name_by.nd rfl (Or.inl rfl) pe_str)
      (pss_cons (ps_set (i := 3) sc__law_name_by.nd rfl (Or.inl rfl) (pe_op op_mod (pv 0) pe_int))
      (pss_cons (ps_set (i := 4) sc__law_name_by.nd rfl (Or.inl rfl) (pe_op op_mod (pe_op op_fdiv (pv 0) pe_int) (pe_op op_add (pv 3) pe_int)))
      (pss_cons (ps_set (i := 5) sc__law_name_by.nd rfl (Or.inl rfl) (pe_op op_repS (pe_ix ix_str (pv 2) (pe_op op_mod (pe_op op_fdiv (pv 0) pe_int) pe_int) (fun _ _ => rfl)) (pv 3)))
      (pss_one (ps_ret (pe_op op_add_str (pe_op op_add_str (pe_op op_add_str (pe_slice sl_str (pv 5) po_none (po_some (pv 4))) (pe_ix ix_str (pv 2) (pe_op op_mod (pv 1) pe_int) (fun _ _ => rfl))) (pe_ix ix_str pe_str (pe_op op_fdiv (pv 1) pe_int) (fun _ _ => rfl))) (pe_slice sl_str (pv 5) (po_some (pv 4)) po_none)))))))), ?_⟩
  try (set_option simprocs false in dsimp only [cxOf])
  have line : (3000000 : Nat) ≤ sizeLine := by decide
  refine ⟨_, rfl, _, _, rfl, rfl, (by show (0 : Int) < 7; decide), ?_⟩
  have a0 := Int.emod_nonneg st (show (7 : Int) ≠ 0 by decide)
  have a7 := Int.emod_lt_of_pos st (show (0 : Int) < 7 by decide)
  refine ⟨_, rfl, _, _, rfl, rfl, ⟨by decide, by decide⟩, _, rfl, _, _, rfl, rfl, _, _, rfl, rfl, (by show (0 : Int) < st % 7 + 1; omega), ?_⟩
  obtain ⟨c1, m1, h1⟩ := atI_some (xs := letters) (i := st / 56 % 26) (Int.emod_nonneg _ (by decide)) (by show st / 56 % 26 < 26; exact Int.emod_lt_of_pos _ (by decide))
  refine ⟨_, rfl, _, rfl, _, _, rfl, rfl, ⟨by decide, by decide⟩, _, _, rfl, rfl, (by show (0 : Int) < 26; decide), _, _, _, rfl, rfl, (by decide +kernel), h1, _, rfl, _, _, rfl, rfl, a0, by show st % 7 ≤ 1000; omega, by show 1 ≤ 1000; decide, fun l1 i1 => ?_⟩
  obtain ⟨c2, m2, h2⟩ := atI_some (xs := letters) (i := k % 26) (Int.emod_nonneg _ (by decide)) (by show k % 26 < 26; exact Int.emod_lt_of_pos _ (by decide))
  obtain ⟨c3, m3, h3⟩ := atI_some (xs := xyz) (i := k / 26) (by omega) (by show k / 26 < 3; omega)
  have la : ∀ a b : Str, (a ++ b).length = a.length + b.length := fun a b => Array.size_append ..
  have l1' : (repS ⟨#[c1]⟩ (st % 7)).length ≤ 1000000 := l1
  have nmof : ∀ z, z = cutS (repS ⟨#[c1]⟩ (st % 7)) none (some (st / 7 % (st % 7 + 1))) ++ ⟨#[c2]⟩ ++ ⟨#[c3]⟩ ++ cutS (repS ⟨#[c1]⟩ (st % 7)) (some (st / 7 % (st % 7 + 1))) none → NameOf st k z := fun z e => ⟨c1, c2, c3, h1, h2, h3, e⟩
  generalize repS ⟨#[c1]⟩ (st % 7) = z1 at *
  refine ⟨_, rfl, _, rfl, _, rfl, z1, rfl, by omega, fun l2 i2 => ⟨_, rfl, _, rfl, _, _, rfl, rfl, (by show (0 : Int) < 26; decide), _, _, _, rfl, rfl, (by decide +kernel), h2, _, _, rfl, rfl, ?_, ?_⟩⟩
  · show (cutS z1 none (some (st / 7 % (st % 7 + 1)))).length + 1 ≤ sizeLine; omega
  refine ⟨_, rfl, _, _, rfl, rfl, ⟨by decide, by decide⟩, _, _, _, rfl, rfl, (by decide +kernel), h3, _, _, rfl, rfl, ?_, ?_⟩
  · rw [la]; show (cutS z1 none (some (st / 7 % (st % 7 + 1)))).length + 1 + 1 ≤ sizeLine; omega
  refine ⟨_, rfl, _, rfl, _, rfl, z1, rfl, by omega, fun l3 i3 => ⟨_, _, rfl, rfl, ?_, q _ ?_ (nmof _ rfl)⟩⟩
  rotate_left
  · have ol : PyData.strOk "abcdefghijklmnopqrstuvwxyz" = true := by decide +kernel
    have o1 := ok_in i1 (ok_one m1 ol)
    exact ok_app (ok_app (ok_app (ok_in i2 o1) (ok_one m2 ol)) (ok_one m3 (by decide +kernel))) (ok_in i3 o1)
  rw [la, la]; show (cutS z1 none (some (st / 7 % (st % 7 + 1)))).length + 1 + 1 + (cutS z1 (some (st / 7 % (st % 7 + 1))) none).length ≤ sizeLine; omega
end
end K20
set_option Elab.async false
set_option linter.all false
set_option maxRecDepth 100000
set_option maxHeartbeats 4000000
namespace K20
open PySem L2 RF
seal L2.PE L2.PA L2.PS L2.PSs L2.PT L2.PG L2.PI L2.PK L2.PO L2.PEx L2.PSx L2.PSxs L2.PH L2.PW L2.PGs L2.OpR L2.CallR L2.SlR L2.IxR
section
variable {P : Program} {w : World} {K : PySem.W.Frag} {mg : Str → Option Value} {base : Heap} {cR cT cI cG : Addr}
noncomputable abbrev s__law_value : Stmt := top 34
theorem sc__law_value : FnScope ["_law_row", "_law_values", "_law_left", "_law_right"] ["_law_row", "_law_values"] (defScope s__law_value) := ⟨rfl, rfl, rfl, by decide +kernel, rfl, by decide +kernel, by decide +kernel⟩
theorem b__law_value : BindsAll "_law_value" s__law_value ["_law_row", "_law_values"] := binds2 fun _ _ _ _ _ _ _ _ => rfl
theorem ok_value (D : Def K mg "_law_value" s__law_value) : FnS P w K mg base "_law_value" ["_law_row", "_law_values"] 1 sp_value := by
  refine D.ok sc__law_value b__law_value sp2_len fun f cdv A outer s H vs Q E hr h => ?_
  obtain ⟨_, _, rfl, r, fv, kvs, t, d, e, rfl, rfl, et, ed, hv, ok, he, hb, q⟩ := h
  refine ⟨_, (pss_cons (ps_if (pt_cmpR op_eq (pe_ix ix0T (pv 0) pe_int (fun _ _ => rfl)) pe_str (nomark _))
        (pss_one (ps_ret (pe_ix ix0T (pv 0) pe_int (fun _ _ => rfl))))
        pss_nil)
      (pss_cons (ps_set (i := 2) sc__law_value.nd rfl (Or.inl rfl) (pe_dget (hu1 hr) (pv 1) (pe_ix ix0T (pv 0) pe_int (fun _ _ => rfl)) (fun _ _ => rfl)))
      (pss_cons (ps_if (pt_cmpR op_eq (pe_ix ix0T (pv 0) pe_int (fun _ _ => rfl)) pe_str (nomark _))
        (pss_one (ps_ret (pe_op op_fdivD (pv 2) (pe_ix ix0T (pv 0) pe_int (fun _ _ => rfl)))))
        pss_nil)
      (pss_cons (ps_set (i := 3) sc__law_value.nd rfl (Or.inl rfl) (pe_dget (hu1 hr) (pv 1) (pe_ix ix0T (pv 0) pe_int (fun _ _ => rfl)) (fun _ _ => rfl)))
      (pss_cons (ps_if (pt_cmpR op_eq (pe_ix ix0T (pv 0) pe_int (fun _ _ => rfl)) pe_str (nomark _))
        (pss_one (ps_ret (pe_op op_add (pv 2) (pv 3))))
        pss_nil)
      (pss_cons (ps_if (pt_cmpR op_eq (pe_ix ix0T (pv 0) pe_int (fun _ _ => rfl)) pe_str (nomark _))
        (pss_one (ps_ret (pe_op op_sub (pv 2) (pv 3))))
        pss_nil)
      (pss_one (ps_ret (pe_op op_mulC (pv 2) (pv 3)))))))))), ?_⟩
  try (set_option simprocs false in dsimp only [cxOf])
  cases ok with
  | num nm v =>
    refine ⟨_, rfl, t, _, _, _, rfl, rfl, SqT.of et, rfl, rfl, _, rfl, iteT ?_⟩
    exact ⟨_, rfl, t, _, _, _, rfl, rfl, SqT.of et, rfl, q⟩
  | div nm l dd x hl hd0 hlog =>
    refine ⟨_, rfl, t, _, _, _, rfl, rfl, SqT.of et, rfl, rfl, _, rfl, iteF ?_⟩
    refine ⟨_, rfl, _, rfl, t, _, _, _, rfl, rfl, SqT.of et, rfl, d, _, rfl, hv l x hl ▸ DGet.k (k := Sum.inr l) ed, ?_⟩
    refine ⟨_, rfl, t, _, _, _, rfl, rfl, SqT.of et, rfl, rfl, _, rfl, iteT ?_⟩
    refine ⟨_, rfl, _, rfl, t, _, _, _, rfl, rfl, SqT.of et, rfl, _, _, rfl, rfl, ⟨hd0, hlog⟩, ?_⟩
    have q : Q (.int ((fv l).getD 0 / dd)) H := q
    rw [hl] at q
    exact q
  | two deed nm l r x y hdd hl hr' =>
    have n2 : deed ≠ "num" := by rcases hdd with rfl | rfl | rfl <;> decide
    have n3 : deed ≠ "div" := by rcases hdd with rfl | rfl | rfl <;> decide
    have q : Q (.int (doneI deed x y)) H := by
      have q : Q (.int (doneI deed ((fv l).getD 0) ((fv r).getD 0))) H := q
      rw [hl, hr'] at q
      exact q
    unfold doneI at q
    refine ⟨_, rfl, t, _, _, _, rfl, rfl, SqT.of et, rfl, rfl, _, rfl, iteFe (decide_eq_false fun z => n2 (V.str.inj z)) ?_⟩
    refine ⟨_, rfl, _, rfl, t, _, _, _, rfl, rfl, SqT.of et, rfl, d, _, rfl, hv l x hl ▸ DGet.k (k := Sum.inr l) ed, ?_⟩
    refine ⟨_, rfl, t, _, _, _, rfl, rfl, SqT.of et, rfl, rfl, _, rfl, iteFe (decide_eq_false fun z => n3 (V.str.inj z)) ?_⟩
    refine ⟨_, rfl, _, rfl, t, _, _, _, rfl, rfl, SqT.of et, rfl, d, _, rfl, hv r y hr' ▸ DGet.k (k := Sum.inr r) ed, ?_⟩
    refine ⟨_, rfl, t, _, _, _, rfl, rfl, SqT.of et, rfl, rfl, _, rfl, iteE (fun h => ?_) (fun h => ?_)⟩
    · rw [if_pos (str_of h)] at q
      exact ⟨_, rfl, _, rfl, _, _, rfl, rfl, q⟩
    rw [if_neg (str_no h)] at q
    refine ⟨_, rfl, t, _, _, _, rfl, rfl, SqT.of et, rfl, rfl, _, rfl, iteE (fun h => ?_) (fun h => ?_)⟩
    · rw [if_pos (str_of h)] at q
      exact ⟨_, rfl, _, rfl, _, _, rfl, rfl, q⟩
    rw [if_neg (str_no h)] at q
    exact ⟨_, rfl, _, rfl, _, _, rfl, rfl, ⟨e, he, hb l x hl, hb r y hr'⟩, q⟩
end
end K20
set_option Elab.async false
set_option linter.all false
set_option maxRecDepth 100000
set_option maxHeartbeats 4000000
namespace K20
open PySem L2 RF
seal L2.PE L2.PA L2.PS L2.PSs L2.PT L2.PG L2.PI L2.PK L2.PO L2.PEx L2.PSx L2.PSxs L2.PH L2.PW L2.PGs L2.OpR L2.CallR L2.SlR L2.IxR
section
variable {P : Program} {w : World} {K : PySem.W.Frag} {mg : Str → Option Value} {base : Heap} {cR cT cI cG : Addr}
theorem big_of {v : Int} (h1 : -(2 ^ 123) < v) (h2 : v < 2 ^ 123) : Big 130 v := by
  unfold Big
  omega
end
end K20
set_option Elab.async false
set_option linter.all false
set_option maxRecDepth 100000
set_option maxHeartbeats 4000000
namespace K20
open PySem L2 RF
seal L2.PE L2.PA L2.PS L2.PSs L2.PT L2.PG L2.PI L2.PK L2.PO L2.PEx L2.PSx L2.PSxs L2.PH L2.PW L2.PGs L2.OpR L2.CallR L2.SlR L2.IxR
section
variable {P : Program} {w : World} {K : PySem.W.Frag} {mg : Str → Option Value} {base : Heap} {cR cT cI cG : Addr}
theorem rdS {H : Hp} : ∀ names : List Str, RdDs K H (names.map V.str) (names.map PyData.str)
  | [] => .nil
  | n :: r => .cons (.str n) (rdS r)
theorem canS : ∀ names : List Str, (∀ n ∈ names, PyData.strOk n = true) → PyData.canLayAll0 (names.map PyData.str) = true
  | [], _ => rfl
  | n :: r, h => by simp [PyData.canLayAll0, PyData.canLay0, h n List.mem_cons_self, canS r fun m hm => h m (List.mem_cons_of_mem _ hm)]
theorem depS : ∀ names : List Str, PyData.depthAll (names.map PyData.str) = 0
  | [] => rfl
  | n :: r => by simp [PyData.depthAll, PyData.depth, depS r]
theorem shS (names : List Str) (h : ∀ n ∈ names, PyData.strOk n = true) : SeqAt.shaped (.list (names.map PyData.str)) = true := by
  have : PyData.depth (.list (names.map PyData.str)) ≤ 64 := by simp only [PyData.depth, depS]; omega
  unfold SeqAt.shaped
  rw [decide_eq_true this, PyData.canLay0, canS names h]; rfl
theorem eqvS (names : List Str) : PyData.eqv (.list (names.map PyData.str)) (.list []) = decide (names = []) := by
  cases names with
  | nil => rfl
  | cons n r => rw [decide_eq_false (by intro z; cases z)]; rfl
end
end K20
set_option Elab.async false
set_option linter.all false
set_option maxRecDepth 100000
set_option maxHeartbeats 4000000
namespace K20
open PySem L2 RF
seal L2.PE L2.PA L2.PS L2.PSs L2.PT L2.PG L2.PI L2.PK L2.PO L2.PEx L2.PSx L2.PSxs L2.PH L2.PW L2.PGs L2.OpR L2.CallR L2.SlR L2.IxR
section
variable {P : Program} {w : World} {K : PySem.W.Frag} {mg : Str → Option Value} {base : Heap} {cR cT cI cG : Addr}
noncomputable def PR.head : PR → Str
  | .inp _ _ _ => "in"
  | .num _ _ => "num"
  | .div _ _ _ => "div"
  | .two deed _ _ _ => deed
theorem vals_head (r : PR) : ∃ xs, r.vals = .str (PR.head r) :: .str r.name :: xs := by cases r <;> exact ⟨_, rfl⟩
noncomputable def isMul : PR → Bool
  | .two deed _ _ _ => decide (deed = "mul")
  | _ => false
noncomputable def muls (rs : List PR) : Nat := (rs.filter isMul).length
theorem next_mul (e : Nat) (r : PR) : nextB e r = if isMul r = true then 2 * e else e + 1 := by
  cases r with
  | two deed _ _ _ =>
    show (if deed = "mul" then 2 * e else e + 1) = if decide (deed = "mul") = true then 2 * e else e + 1
    by_cases h : deed = "mul"
    · rw [if_pos h, if_pos (decide_eq_true h)]
    · rw [if_neg h, if_neg (by rw [decide_eq_false h]; exact Bool.false_ne_true)]
  | _ => rfl
theorem fold_le : ∀ (rs : List PR) (e : Nat), rs.foldl nextB e ≤ (e + rs.length) * 2 ^ muls rs
  | [], e => by simp [muls]
  | r :: rs, e => by
    rw [List.foldl_cons]
    refine Nat.le_trans (fold_le rs (nextB e r)) ?_
    rw [next_mul, List.length_cons]
    unfold muls
    rw [List.filter_cons]
    by_cases h : isMul r = true
    · rw [if_pos h, if_pos h, List.length_cons, Nat.pow_succ, Nat.mul_comm _ 2, ← Nat.mul_assoc]
      refine Nat.mul_le_mul_right _ ?_
      omega
    · rw [if_neg h, if_neg h]
      refine Nat.mul_le_mul_right _ ?_
      omega
theorem fold_small {rs : List PR} (h : rs.length ≤ 60) (hm : muls rs ≤ 6) (i : Nat) : (rs.take i).foldl nextB 130 ≤ 500000 := by
  refine Nat.le_trans (fold_le _ _) ?_
  have h1 : (rs.take i).length ≤ 60 := Nat.le_trans (List.length_take_le' ..) h
  have h2 : muls (rs.take i) ≤ 6 := by
    unfold muls at *
    exact Nat.le_trans ((List.take_sublist i rs).filter isMul).length_le hm
  have h3 : 2 ^ muls (rs.take i) ≤ 2 ^ 6 := Nat.pow_le_pow_right (by decide) h2
  refine Nat.le_trans (Nat.mul_le_mul (Nat.add_le_add_left h1 130) h3) (by decide)
theorem AllOk.snoc {r : PR} : ∀ {k : Knw} {rs : List PR}, AllOk k rs → RowOk (knows k rs) r → RowBig r → AllOk k (rs ++ [r])
  | _, [], _, h, hb => ⟨h, hb, trivial⟩
  | _, x :: rs, h, h1, h2 => ⟨h.1, h.2.1, AllOk.snoc h.2.2 h1 h2⟩
theorem RowsAt.snoc {H : Hp} {as : List Addr} {rs : List PR} {a : Addr} {r : PR} (h : RowsAt H as rs) (ha : H a = some (.tup r.vals)) : RowsAt H (as ++ [a]) (rs ++ [r]) := by
  induction h with
  | nil => exact .cons ha .nil
  | cons h _ ih => exact .cons h ih
theorem RowsAt.updL {H : Hp} {as : List Addr} {rs : List PR} {l : Addr} {xs : List V} {o : HO} (h : RowsAt H as rs) (hl : H l = some (.lst xs)) : RowsAt (upd H l o) as rs := by
  induction h with
  | nil => exact .nil
  | cons h _ ih => exact .cons (by rw [upd_ne fun z => by rw [z, hl] at h; cases h]; exact h) ih
noncomputable def isIn : PR → Bool
  | .inp _ _ _ => true
  | _ => false
noncomputable def nin (rs : List PR) : Nat := (rs.filter isIn).length
theorem nin_snoc (rs : List PR) (r : PR) : nin (rs ++ [r]) = nin rs + (if isIn r = true then 1 else 0) := by
  unfold nin
  rw [List.filter_append, List.length_append, List.filter_cons]
  by_cases h : isIn r = true
  · rw [if_pos h, if_pos h]; rfl
  · rw [if_neg h, if_neg h]; rfl
theorem not_in {r : PR} (h : PR.head r ≠ "in") : isIn r = false := by
  cases r with
  | inp => exact absurd rfl h
  | _ => rfl
end
end K20
set_option Elab.async false
set_option linter.all false
set_option maxRecDepth 100000
set_option maxHeartbeats 4000000
namespace K20
open PySem L2 RF
seal L2.PE L2.PA L2.PS L2.PSs L2.PT L2.PG L2.PI L2.PK L2.PO L2.PEx L2.PSx L2.PSxs L2.PH L2.PW L2.PGs L2.OpR L2.CallR L2.SlR L2.IxR
section
variable {P : Program} {w : World} {K : PySem.W.Frag} {mg : Str → Option Value} {base : Heap} {cR cT cI cG : Addr}
noncomputable def Gr (g : St → Hp → Prop) : St → Hp → Prop := g
theorem at0 {x : V} {xs : List V} : atI (x :: xs) 0 = some x := atI_nat (j := 0) (xs := x :: xs) rfl
theorem at1 {x y : V} {xs : List V} : atI (x :: y :: xs) 1 = some y := atI_nat (j := 1) (xs := x :: y :: xs) rfl
theorem muls_snoc (rs : List PR) (r : PR) : muls (rs ++ [r]) = muls rs + (if isMul r = true then 1 else 0) := by
  unfold muls
  rw [List.filter_append, List.length_append, List.filter_cons]
  by_cases h : isMul r = true
  · rw [if_pos h, if_pos h]; rfl
  · rw [if_neg h, if_neg h]; rfl
theorem names_nd {st : Int} {rs : List PR} (h : ∀ (j : Nat) r, rs[j]? = some r → NameOf st (j : Int) r.name) (hl : rs.length ≤ 60) : (rs.map PR.name).Nodup := by
  refine List.pairwise_iff_getElem.mpr fun i j hi hj hij e => ?_
  rw [List.length_map] at hi hj
  rw [List.getElem_map, List.getElem_map] at e
  have a := h i _ (List.getElem?_eq_getElem hi)
  have b := h j _ (List.getElem?_eq_getElem hj)
  rw [e] at a
  have := a.inj b (by omega) (by omega) (by omega) (by omega)
  omega
end
end K20
set_option Elab.async false
set_option linter.all false
set_option maxRecDepth 100000
set_option maxHeartbeats 4000000
namespace K20
open PySem L2 RF
seal L2.PE L2.PA L2.PS L2.PSs L2.PT L2.PG L2.PI L2.PK L2.PO L2.PEx L2.PSx L2.PSxs L2.PH L2.PW L2.PGs L2.OpR L2.CallR L2.SlR L2.IxR
section
variable {P : Program} {w : World} {K : PySem.W.Frag} {mg : Str → Option Value} {base : Heap} {cR cT cI cG : Addr}
theorem head_in {k : Knw} {r : PR} (h : RowOk k r) : PR.head r ≠ "in" ∨ ∃ nm lo hi, r = .inp nm lo hi ∧ lo ≤ hi := by
  cases h with
  | inp nm lo hi h => exact .inr ⟨nm, lo, hi, rfl, h⟩
  | num => exact .inl (show ("num" : Str) ≠ "in" by decide)
  | div => exact .inl (show ("div" : Str) ≠ "in" by decide)
  | two deed nm l r hd _ _ => exact .inl (show deed ≠ "in" by rcases hd with rfl | rfl | rfl <;> decide)
end
end K20
set_option Elab.async false
set_option linter.all false
set_option maxRecDepth 100000
set_option maxHeartbeats 4000000
namespace K20
open PySem L2 RF
seal L2.PE L2.PA L2.PS L2.PSs L2.PT L2.PG L2.PI L2.PK L2.PO L2.PEx L2.PSx L2.PSxs L2.PH L2.PW L2.PGs L2.OpR L2.CallR L2.SlR L2.IxR
section
variable {P : Program} {w : World} {K : PySem.W.Frag} {mg : Str → Option Value} {base : Heap} {cR cT cI cG : Addr}
end
end K20
set_option Elab.async false
set_option linter.all false
set_option maxRecDepth 100000
set_option maxHeartbeats 4000000
namespace K20
open PySem L2 RF
seal L2.PE L2.PA L2.PS L2.PSs L2.PT L2.PG L2.PI L2.PK L2.PO L2.PEx L2.PSx L2.PSxs L2.PH L2.PW L2.PGs L2.OpR L2.CallR L2.SlR L2.IxR
section
variable {P : Program} {w : World} {K : PySem.W.Frag} {mg : Str → Option Value} {base : Heap} {cR cT cI cG : Addr}
theorem iteTe {c : Bool} {A B : Prop} (h : c = true) (a : A) : if c = true then A else B := by rw [if_pos h]; exact a
theorem put1 {fv : Str → Option Int} {kvs : List (Key × V)} {rn : Str} {v : Int} (hv : ∀ nm v, fv nm = some v → valV kvs (Sum.inr nm) = some (.int v)) : ∀ nm x, (if nm = rn then some v else fv nm) = some x → valV (putK kvs (Sum.inr rn) (.int v)) (Sum.inr nm) = some (.int x) := fun nm x h => by
  rw [valV_put]
  by_cases hz : nm = rn
  · rw [if_pos hz] at h; cases h; rw [if_pos (by rw [hz])]
  · rw [if_neg hz] at h; rw [if_neg fun z => hz (Sum.inr.inj z)]; exact hv nm x h
end
end K20
set_option Elab.async false
set_option linter.all false
set_option maxRecDepth 100000
set_option maxHeartbeats 4000000
namespace K20
open PySem L2 RF
seal L2.PE L2.PA L2.PS L2.PSs L2.PT L2.PG L2.PI L2.PK L2.PO L2.PEx L2.PSx L2.PSxs L2.PH L2.PW L2.PGs L2.OpR L2.CallR L2.SlR L2.IxR
section
variable {P : Program} {w : World} {K : PySem.W.Frag} {mg : Str → Option Value} {base : Heap} {cR cT cI cG : Addr}
noncomputable def flatD : PyData → Bool
  | .str _ => true
  | .int _ => true
  | _ => false
theorem eqv_flat : ∀ xs : List PyData, xs.all flatD = true → PyData.eqvAll xs xs = true
  | [], _ => rfl
  | x :: xs, h => by
    rw [List.all_cons, Bool.and_eq_true] at h
    have ih := eqv_flat xs h.2
    cases x with
    | str s => simp [PyData.eqvAll, PyData.eqv, ih]
    | int i => simp [PyData.eqvAll, PyData.eqv, ih]
    | _ => cases h.1
end
end K20
set_option Elab.async false
set_option linter.all false
set_option maxRecDepth 100000
set_option maxHeartbeats 4000000
namespace K20
open PySem L2 RF
seal L2.PE L2.PA L2.PS L2.PSs L2.PT L2.PG L2.PI L2.PK L2.PO L2.PEx L2.PSx L2.PSxs L2.PH L2.PW L2.PGs L2.OpR L2.CallR L2.SlR L2.IxR
section
variable {P : Program} {w : World} {K : PySem.W.Frag} {mg : Str → Option Value} {base : Heap} {cR cT cI cG : Addr}
end
end K20
set_option Elab.async false
set_option linter.all false
set_option maxRecDepth 100000
set_option maxHeartbeats 4000000
namespace K20
open PySem L2 RF
seal L2.PE L2.PA L2.PS L2.PSs L2.PT L2.PG L2.PI L2.PK L2.PO L2.PEx L2.PSx L2.PSxs L2.PH L2.PW L2.PGs L2.OpR L2.CallR L2.SlR L2.IxR
section
variable {P : Program} {w : World} {K : PySem.W.Frag} {mg : Str → Option Value} {base : Heap} {cR cT cI cG : Addr}
noncomputable def putF (f : Str → Option Int) (nm : Str) (v : Int) : Str → Option Int := fun x => if x = nm then some v else f x
noncomputable def numOf (f : Str → Option Int) (vs : List Int) : PR → Int
  | .inp _ _ _ => vs.headD 0
  | .num nm v => valOf f (.num nm v)
  | .div nm l d => valOf f (.div nm l d)
  | .two deed nm l r => valOf f (.two deed nm l r)
theorem numOf_other {f : Str → Option Int} {vs : List Int} {r : PR} (h : isIn r = false) : numOf f vs r = valOf f r := by
  cases r with
  | inp => cases h
  | _ => rfl
noncomputable def leftOf (vs : List Int) (r : PR) : List Int := if isIn r = true then vs.tail else vs
noncomputable def walkF : (Str → Option Int) → List Int → List PR → (Str → Option Int)
  | f, _, [] => f
  | f, vs, r :: rs => walkF (putF f r.name (numOf f vs r)) (leftOf vs r) rs
noncomputable def walkN : (Str → Option Int) → List Int → List PR → List Int
  | _, _, [] => []
  | f, vs, r :: rs => numOf f vs r :: walkN (putF f r.name (numOf f vs r)) (leftOf vs r) rs
noncomputable def walkL : List Int → List PR → List Int
  | vs, [] => vs
  | vs, r :: rs => walkL (leftOf vs r) rs
noncomputable def noneF : Str → Option Int := fun _ => none
theorem walkF_snoc (r : PR) : ∀ (f : Str → Option Int) (vs : List Int) (rs : List PR), walkF f vs (rs ++ [r]) = putF (walkF f vs rs) r.name (numOf (walkF f vs rs) (walkL vs rs) r)
  | _, _, [] => rfl
  | f, vs, x :: rs => walkF_snoc r (putF f x.name (numOf f vs x)) (leftOf vs x) rs
theorem walkN_snoc (r : PR) : ∀ (f : Str → Option Int) (vs : List Int) (rs : List PR), walkN f vs (rs ++ [r]) = walkN f vs rs ++ [numOf (walkF f vs rs) (walkL vs rs) r]
  | _, _, [] => rfl
  | f, vs, x :: rs => congrArg (_ :: ·) (walkN_snoc r (putF f x.name (numOf f vs x)) (leftOf vs x) rs)
theorem walkN_len : ∀ (f : Str → Option Int) (vs : List Int) (rs : List PR), (walkN f vs rs).length = rs.length
  | _, _, [] => rfl
  | f, vs, x :: rs => congrArg (· + 1) (walkN_len (putF f x.name (numOf f vs x)) (leftOf vs x) rs)
theorem walkN_take : ∀ (f : Str → Option Int) (vs : List Int) (rs : List PR) (i : Nat), walkN f vs (rs.take i) = (walkN f vs rs).take i
  | _, _, [], i => by simp [walkN]
  | _, _, _ :: _, 0 => rfl
  | f, vs, x :: rs, i + 1 => congrArg (_ :: ·) (walkN_take (putF f x.name (numOf f vs x)) (leftOf vs x) rs i)
theorem walkN_at {r : PR} : ∀ {f : Str → Option Int} {vs : List Int} {rs : List PR} {i : Nat}, rs[i]? = some r → (walkN f vs rs)[i]? = some (numOf (walkF f vs (rs.take i)) (walkL vs (rs.take i)) r)
  | _, _, x :: rs, 0, e => by cases e; rfl
  | f, vs, x :: rs, i + 1, e => walkN_at (f := putF f x.name (numOf f vs x)) (vs := leftOf vs x) (rs := rs) (by simpa using e)
theorem nin_cons (r : PR) (rs : List PR) : nin (r :: rs) = (if isIn r = true then 1 else 0) + nin rs := by
  unfold nin
  rw [List.filter_cons]
  by_cases h : isIn r = true
  · rw [if_pos h, if_pos h, List.length_cons]; omega
  · rw [if_neg h, if_neg h]; omega
theorem walkL_eq : ∀ (vs : List Int) (rs : List PR), walkL vs rs = vs.drop (nin rs)
  | _, [] => rfl
  | vs, r :: rs => by
    show walkL (leftOf vs r) rs = _
    rw [walkL_eq, nin_cons]
    unfold leftOf
    by_cases h : isIn r = true
    · rw [if_pos h, if_pos h, ← List.drop_one, List.drop_drop]
    · rw [if_neg h, if_neg h, Nat.zero_add]
theorem known_walk : ∀ {rs : List PR} {k : Knw} {f : Str → Option Int} {vs : List Int}, (∀ nm, (k nm).isSome → (f nm).isSome) → ∀ nm, (knows k rs nm).isSome → (walkF f vs rs nm).isSome
  | [], _, _, _, h, nm, e => h nm e
  | r :: rs, k, f, vs, h, nm, e => known_walk (rs := rs) (k := k.put r.name (endsOf k r)) (f := putF f r.name (numOf f vs r)) (vs := leftOf vs r) (fun x hx => by
      unfold putF
      unfold Knw.put at hx
      by_cases hz : x = r.name
      · rw [if_pos hz]; rfl
      · rw [if_neg hz] at hx ⊢; exact h x hx) nm e
theorem walk_vok {f : Str → Option Int} {k : Knw} {r : PR} (hf : ∀ nm, (k nm).isSome → (f nm).isSome) (ok : RowOk k r) (hn : isIn r = false) : VOk f r := by
  cases ok with
  | inp => cases hn
  | num nm v => exact .num nm v
  | div nm l d hl hd hlog =>
    obtain ⟨x, hx⟩ := Option.isSome_iff_exists.mp (hf l hl)
    exact .div nm l d x hx hd hlog
  | two deed nm l r hdd hl hr' =>
    obtain ⟨x, hx⟩ := Option.isSome_iff_exists.mp (hf l hl)
    obtain ⟨y, hy⟩ := Option.isSome_iff_exists.mp (hf r hr')
    exact .two deed nm l r x y hdd hx hy
noncomputable def AllFit (kept : List Int) (f : Str → Option Int) : Prop := ∀ nm v, f nm = some v → Fits kept v
theorem AllFit.put {kept : List Int} {f : Str → Option Int} (h : AllFit kept f) {nm : Str} {v : Int} (hv : Fits kept v) : AllFit kept (putF f nm v) := fun x y e => by
  unfold putF at e
  by_cases hz : x = nm
  · rw [if_pos hz] at e; cases e; exact hv
  · rw [if_neg hz] at e; exact h x y e
theorem fits_walk {kept : List Int} : ∀ {rs : List PR} {f : Str → Option Int} {vs : List Int}, AllFit kept f → (∀ n ∈ walkN f vs rs, Fits kept n) → AllFit kept (walkF f vs rs)
  | [], _, _, h, _ => h
  | r :: rs, f, vs, h, hn => fits_walk (rs := rs) (h.put (hn _ List.mem_cons_self)) fun n hn' => hn n (List.mem_cons_of_mem _ hn')
noncomputable def GoodIn (rs : List PR) (ws : List Int) : Prop := ws.length = nin rs ∧ ∀ (j : Nat) (nm : Str) (lo hi v : Int), (rs.filter isIn)[j]? = some (.inp nm lo hi) → ws[j]? = some v → lo ≤ v ∧ v ≤ hi
theorem filt_at {r : PR} : ∀ {rs : List PR} {i : Nat}, rs[i]? = some r → isIn r = true → (rs.filter isIn)[nin (rs.take i)]? = some r
  | x :: rs, 0, e, h => by
    cases e
    rw [List.filter_cons, if_pos h]; rfl
  | x :: rs, i + 1, e, h => by
    have ih := filt_at (rs := rs) (i := i) (by simpa using e) h
    rw [List.take_succ_cons, nin_cons, List.filter_cons]
    by_cases hx : isIn x = true
    · rw [if_pos hx, if_pos hx, Nat.add_comm, List.getElem?_cons_succ]; exact ih
    · rw [if_neg hx, if_neg hx, Nat.zero_add]; exact ih
inductive FigsAt (H : Hp) (ds : List Int) : List (Addr × Addr) → List (Str × Int) → Prop
  | nil : FigsAt H ds [] []
  | cons {p : Addr × Addr} {x : Str × Int} {ps : List (Addr × Addr)} {xs : List (Str × Int)} (h : H p.1 = some (.tup [.str x.1, .ref p.2])) (h' : H p.2 = some (.lst ((rests ds x.2).map V.int))) (t : FigsAt H ds ps xs) : FigsAt H ds (p :: ps) (x :: xs)
theorem FigsAt.up {H H' : Hp} {ds : List Int} {ps : List (Addr × Addr)} {xs : List (Str × Int)} (h : FigsAt H ds ps xs) (S : Same H H') : FigsAt H' ds ps xs := by
  induction h with
  | nil => exact .nil
  | cons h h' _ ih => exact .cons (S _ _ h) (S _ _ h') ih
theorem FigsAt.len {H : Hp} {ds : List Int} {ps : List (Addr × Addr)} {xs : List (Str × Int)} (h : FigsAt H ds ps xs) : ps.length = xs.length := by
  induction h with
  | nil => rfl
  | cons _ _ _ ih => rw [List.length_cons, List.length_cons, ih]
theorem FigsAt.snoc {H : Hp} {ds : List Int} {ps : List (Addr × Addr)} {xs : List (Str × Int)} {p : Addr × Addr} {x : Str × Int} (h : FigsAt H ds ps xs) (h1 : H p.1 = some (.tup [.str x.1, .ref p.2])) (h2 : H p.2 = some (.lst ((rests ds x.2).map V.int))) : FigsAt H ds (ps ++ [p]) (xs ++ [x]) := by
  induction h with
  | nil => exact .cons h1 h2 .nil
  | cons h h' _ ih => exact .cons h h' ih
theorem FigsAt.upd {H : Hp} {ds : List Int} {ps : List (Addr × Addr)} {xs : List (Str × Int)} {a : Addr} {o : HO} (h : FigsAt H ds ps xs) (h1 : ∀ ys, H a ≠ some (.tup ys)) (h2 : ∀ p ∈ ps, p.2 ≠ a) : FigsAt (L2.upd H a o) ds ps xs := by
  induction h with
  | nil => exact .nil
  | cons h h' _ ih => exact .cons (by rw [upd_ne fun z => h1 _ (z ▸ h)]; exact h) (by rw [upd_ne (h2 _ List.mem_cons_self)]; exact h') (ih fun p hp => h2 p (List.mem_cons_of_mem _ hp))
noncomputable def Dom (H H' : Hp) : Prop := ∀ a, H' a = none → H a = none
theorem Same.dom {H H' : Hp} (S : Same H H') : Dom H H' := fun a e => S.free e
structure ToldF (H H' : Hp) (ds : List Int) (lt : Addr) (ps : List (Addr × Addr)) (xs : List (Str × Int)) : Prop where
  lst : H' lt = some (.lst (ps.map fun p => V.ref p.1))
  figs : FigsAt H' ds ps xs
  new : ∀ p ∈ ps, H p.2 = none ∧ p.2 ≠ lt
  nd : (ps.map fun p => p.2).Nodup
  free : H lt = none
theorem ToldF.up {H H1 H2 : Hp} {ds : List Int} {lt : Addr} {ps : List (Addr × Addr)} {xs : List (Str × Int)} (h : ToldF H H1 ds lt ps xs) (S : Same H1 H2) : ToldF H H2 ds lt ps xs := ⟨S _ _ h.lst, h.figs.up S, h.new, h.nd, h.free⟩
noncomputable def saidOf (rs : List PR) (ns : List Int) : List (Str × Int) := (rs.map PR.name).zip ns
theorem said_snoc {rs : List PR} {r : PR} {ns : List Int} {n : Int} (h : rs.length = ns.length) : saidOf (rs ++ [r]) (ns ++ [n]) = saidOf rs ns ++ [(r.name, n)] := by
  unfold saidOf
  rw [List.map_append, List.zip_append (by rw [List.length_map]; exact h)]
  rfl
theorem fits_big {kept : List Int} {spare : List Int} (g : GoodBase kept spare) {v : Int} (h : Fits kept v) : Big 130 v := by
  obtain ⟨h1, h2⟩ := h
  unfold RF.lowest at h1
  unfold RF.highest at h2
  have a := g.small
  have b := g.span
  unfold Big
  omega
end
end K20
set_option Elab.async false
set_option linter.all false
set_option maxRecDepth 100000
set_option maxHeartbeats 4000000
namespace K20
open PySem L2 RF
seal L2.PE L2.PA L2.PS L2.PSs L2.PT L2.PG L2.PI L2.PK L2.PO L2.PEx L2.PSx L2.PSxs L2.PH L2.PW L2.PGs L2.OpR L2.CallR L2.SlR L2.IxR
section
variable {P : Program} {w : World} {K : PySem.W.Frag} {mg : Str → Option Value} {base : Heap} {cR cT cI cG : Addr}
inductive isp_pval (a b : V) (H : Hp) (Q : VK) (E : XK) : Prop
  | inp (nm : Str) (lo hi v : Int) (kvs : List (Key × V)) (t d : Addr) (h0 : a = .ref t) (h1 : b = .ref d) (h2 : H t = some (.tup (PR.inp nm lo hi).vals)) (h3 : H d = some (.dK kvs)) (h4 : valV kvs (Sum.inr nm) = some (.int v)) (q : Q (.int v) H) : isp_pval a b H Q E
  | other (r : PR) (f : Str → Option Int) (kvs : List (Key × V)) (t d : Addr) (e : Nat) (h0 : a = .ref t) (h1 : b = .ref d) (h2 : H t = some (.tup r.vals)) (h3 : H d = some (.dK kvs)) (h4 : ∀ nm v, f nm = some v → valV kvs (Sum.inr nm) = some (.int v)) (h5 : VOk f r) (he : e ≤ 500000) (hb : ∀ nm v, f nm = some v → Big e v)
      (q : Q (.int (valOf f r)) H) : isp_pval a b H Q E
noncomputable def sp_pval : Sp := Sp2 isp_pval
noncomputable abbrev s_value_of : Stmt := top 19
theorem sc_value_of : FnScope ["row", "values"] ["row", "values"] (defScope s_value_of) := ⟨rfl, rfl, rfl, by decide +kernel, rfl, by decide +kernel, by decide +kernel⟩
theorem b_value_of : BindsAll "value_of" s_value_of ["row", "values"] := binds2 fun _ _ _ _ _ _ _ _ => rfl
theorem ok_value_of (D : Def K mg "value_of" s_value_of) (F_done : FnS P w K mg base "done" ["deed", "one", "other"] 1 sp_doneP) : FnS P w K mg base "value_of" ["row", "values"] 2 sp_pval := by
  refine D.ok sc_value_of b_value_of sp2_len fun f cdv A outer s H vs Q E hr h => ?_
  obtain ⟨_, _, rfl, h⟩ := h
  refine ⟨_, (pss_cons (ps_if (pt_cmpR op_eq (pe_ix ix0T (pv 0) pe_int (fun _ _ => rfl)) pe_str (nomark _))
        (pss_one (ps_ret (pe_dget (hu1 hr) (pv 1) (pe_ix ix0T (pv 0) pe_int (fun _ _ => rfl)) (fun _ _ => rfl))))
        pss_nil)
      (pss_cons (ps_if (pt_cmpR op_eq (pe_ix ix0T (pv 0) pe_int (fun _ _ => rfl)) pe_str (nomark _))
        (pss_one (ps_ret (pe_ix ix0T (pv 0) pe_int (fun _ _ => rfl))))
        pss_nil)
      (pss_cons (ps_if (pt_cmpR op_eq (pe_ix ix0T (pv 0) pe_int (fun _ _ => rfl)) pe_str (nomark _))
        (pss_one (ps_ret (pe_op op_fdivD (pe_dget (hu1 hr) (pv 1) (pe_ix ix0T (pv 0) pe_int (fun _ _ => rfl)) (fun _ _ => rfl)) (pe_ix ix0T (pv 0) pe_int (fun _ _ => rfl)))))
        pss_nil)
      (pss_one (ps_ret (cFn F_done hr passes0 (ac (pe_ix ix0T (pv 0) pe_int (fun _ _ => rfl)) (ac (pe_dget (hu1 hr) (pv 1) (pe_ix ix0T (pv 0) pe_int (fun _ _ => rfl)) (fun _ _ => rfl)) (ac (pe_dget (hu1 hr) (pv 1) (pe_ix ix0T (pv 0) pe_int (fun _ _ => rfl)) (fun _ _ => rfl)) pa_nil))))))))), ?_⟩
  try (set_option simprocs false in dsimp only [cxOf])
  rcases h with ⟨nm, lo, hi, v, kvs, t, d, rfl, rfl, et, ed, hv, q⟩ | ⟨r, fv, kvs, t, d, e, rfl, rfl, et, ed, hv, ok, he, hb, q⟩
  · refine ⟨_, rfl, t, _, _, _, rfl, rfl, SqT.of et, rfl, rfl, _, rfl, iteT ?_⟩
    exact ⟨_, rfl, _, rfl, t, _, _, _, rfl, rfl, SqT.of et, rfl, d, _, rfl, hv ▸ DGet.k (k := Sum.inr nm) ed, q⟩
  cases ok with
  | num nm v =>
    refine ⟨_, rfl, t, _, _, _, rfl, rfl, SqT.of et, rfl, rfl, _, rfl, iteF ?_⟩
    refine ⟨_, rfl, t, _, _, _, rfl, rfl, SqT.of et, rfl, rfl, _, rfl, iteT ?_⟩
    exact ⟨_, rfl, t, _, _, _, rfl, rfl, SqT.of et, rfl, q⟩
  | div nm l dd x hl hd0 hlog =>
    refine ⟨_, rfl, t, _, _, _, rfl, rfl, SqT.of et, rfl, rfl, _, rfl, iteF ?_⟩
    refine ⟨_, rfl, t, _, _, _, rfl, rfl, SqT.of et, rfl, rfl, _, rfl, iteF ?_⟩
    refine ⟨_, rfl, t, _, _, _, rfl, rfl, SqT.of et, rfl, rfl, _, rfl, iteT ?_⟩
    refine ⟨_, rfl, _, rfl, t, _, _, _, rfl, rfl, SqT.of et, rfl, d, _, rfl, hv l x hl ▸ DGet.k (k := Sum.inr l) ed, _, rfl, t, _, _, _, rfl, rfl, SqT.of et, rfl, _, _, rfl, rfl, ⟨hd0, hlog⟩, ?_⟩
    have q : Q (.int ((fv l).getD 0 / dd)) H := q
    rw [hl] at q
    exact q
  | two deed nm l r x y hdd hl hr' =>
    have n1 : deed ≠ "in" := by rcases hdd with rfl | rfl | rfl <;> decide
    have n2 : deed ≠ "num" := by rcases hdd with rfl | rfl | rfl <;> decide
    have n3 : deed ≠ "div" := by rcases hdd with rfl | rfl | rfl <;> decide
    have q : Q (.int (doneI deed x y)) H := by
      have q : Q (.int (doneI deed ((fv l).getD 0) ((fv r).getD 0))) H := q
      rw [hl, hr'] at q
      exact q
    refine ⟨_, rfl, t, _, _, _, rfl, rfl, SqT.of et, rfl, rfl, _, rfl, iteFe (decide_eq_false fun z => n1 (V.str.inj z)) ?_⟩
    refine ⟨_, rfl, t, _, _, _, rfl, rfl, SqT.of et, rfl, rfl, _, rfl, iteFe (decide_eq_false fun z => n2 (V.str.inj z)) ?_⟩
    refine ⟨_, rfl, t, _, _, _, rfl, rfl, SqT.of et, rfl, rfl, _, rfl, iteFe (decide_eq_false fun z => n3 (V.str.inj z)) ?_⟩
    exact ⟨_, rfl, t, _, _, _, rfl, rfl, SqT.of et, rfl, _, rfl, _, rfl, t, _, _, _, rfl, rfl, SqT.of et, rfl, d, _, rfl, hv l x hl ▸ DGet.k (k := Sum.inr l) ed, _, rfl, _, rfl, t, _, _, _, rfl, rfl, SqT.of et, rfl, d, _, rfl, hv r y hr' ▸ DGet.k (k := Sum.inr r) ed, _, _, _, rfl, deed, x, y, e, rfl, rfl, rfl, he, hb l x hl, hb r y hr', q⟩
noncomputable def inP (H : Hp) : V → Bool
  | .ref a => (match H a with
    | some (.tup (.str d :: _)) => decide (d = "in")
    | _ => false)
  | _ => false
theorem inP_at {H : Hp} {a : Addr} {r : PR} (h : H a = some (.tup r.vals)) : inP H (.ref a) = decide (PR.head r = "in") := by
  obtain ⟨xs, ev⟩ := vals_head r
  rw [ev] at h
  simp only [inP, h]
theorem RowsAt.filt {H : Hp} {as : List Addr} {rs : List PR} (h : RowsAt H as rs) (hh : ∀ r ∈ rs, PR.head r = "in" → isIn r = true) : ∃ bs : List Addr, ((as.map V.ref).filter (inP H)).map (fun x => x) = bs.map V.ref ∧ RowsAt H bs (rs.filter isIn) := by
  induction h with
  | nil => exact ⟨[], rfl, .nil⟩
  | @cons a r as rs h t ih =>
    obtain ⟨bs, e, R⟩ := ih fun r hr => hh r (List.mem_cons_of_mem _ hr)
    have ep := inP_at h
    rw [List.map_cons, List.filter_cons, List.filter_cons]
    by_cases hi : isIn r = true
    · have : PR.head r = "in" := by cases r with | inp => rfl | _ => cases hi
      rw [if_pos (by rw [ep]; exact decide_eq_true this), if_pos hi]
      exact ⟨a :: bs, by rw [List.map_cons, e]; rfl, .cons h R⟩
    · have : ¬ PR.head r = "in" := fun z => hi (hh r List.mem_cons_self z)
      rw [if_neg (by rw [ep]; exact fun z => this (of_decide_eq_true z)), if_neg hi]
      exact ⟨bs, e, R⟩
inductive isp_rows_of (a b : V) (H : Hp) (Q : VK) (E : XK) : Prop
  | mk (l : Addr) (as : List Addr) (rs : List PR) (h0 : a = .ref l) (h1 : H l = some (.lst (as.map V.ref))) (h2 : RowsAt H as rs) (h3 : rs.length ≤ 60) (h4 : ∀ r ∈ rs, PR.head r = "in" → isIn r = true) (h5 : b = .str "in")
      (q : ∀ lf bs H', Same H H' → H lf = none → H' lf = some (.lst (bs.map V.ref)) → RowsAt H' bs (rs.filter isIn) → Q (.ref lf) H') : isp_rows_of a b H Q E
noncomputable def sp_rows_of : Sp := Sp2 isp_rows_of
noncomputable abbrev s_rows_of : Stmt := top 18
theorem sc_rows_of : FnScope ["program", "deed"] ["program", "deed"] (defScope s_rows_of) := ⟨rfl, rfl, rfl, by decide +kernel, rfl, by decide +kernel, by decide +kernel⟩
theorem b_rows_of : BindsAll "rows_of" s_rows_of ["program", "deed"] := binds2 fun _ _ _ _ _ _ _ _ => rfl
theorem ok_rows_of (D : Def K mg "rows_of" s_rows_of) : FnS P w K mg base "rows_of" ["program", "deed"] 1 sp_rows_of := by
  refine D.ok sc_rows_of b_rows_of sp2_len fun f cdv A outer s H vs Q E hr h => ?_
  obtain ⟨_, _, rfl, l, as, rs, rfl, el, R, r60, hh, rfl, q⟩ := h
  refine ⟨_, (pss_one (ps_ret (pe_compF (lv := 1) (caps := [1]) (N' := ["row", "deed"]) (xe := fun _ _ _ _ _ _ => False) (fun _ _ _ _ _ _ _ _ _ _ _ _ _ z => z.elim) rfl (CompOk.caps (sc := defScope s_rows_of) rfl (by decide +kernel) (by decide +kernel) (by decide +kernel) rfl rfl (compcap1 rfl rfl rfl)) (keep_name (by decide)) (pi_list (pv 0)) (fun _ _ _ _ => pg_name (i := 0) (show (["row", "deed"] : List Str).Nodup by decide +kernel) rfl (Or.inl rfl)) (fun _ _ _ _ => (pt_cmpR op_eq (pe_ix ix0T (pv 0) pe_int (fun _ _ => rfl)) (pv 1) (nomark _))) (fun _ _ _ _ => (pv 0))))), ?_⟩
  try (set_option simprocs false in dsimp only [cxOf])
  have s300 : (300 : Nat) ≤ sizeLine := by decide
  refine ⟨_, rfl, l, rfl, ⟨_, SqL.of el⟩, comp_LF (K := K) (SqL.of el) (by rw [List.length_map, R.len]; omega) (inP H) (fun x => x) ?_ ?_⟩
  · intro x hx H' Q' R' S yes no
    obtain ⟨a, ha, rfl⟩ := List.mem_map.mp hx
    obtain ⟨i, hi⟩ := List.getElem?_of_mem ha
    obtain ⟨r, hr', ea⟩ := R.at hi
    have ep := inP_at ea
    obtain ⟨xs, ev⟩ := vals_head r
    have ea' := S _ _ ea
    rw [ev] at ea'
    refine ⟨_, rfl, a, _, _, _, rfl, rfl, SqT.of ea', at0, _, rfl, rfl, _, rfl, iteE (fun h => ?_) (fun h => ?_)⟩
    · exact ⟨_, rfl, yes (by rw [ep]; exact decide_eq_true (str_of h)) _ (Same.refl _)⟩
    · exact no (by rw [ep]; exact decide_eq_false (str_no h)) _ (Same.refl _)
  · intro lf H' fl S e
    obtain ⟨bs, eb, RB⟩ := K20.RowsAt.filt R hh
    rw [eb] at e
    exact q lf bs H' S fl e (RB.up S)
end
end K20
set_option Elab.async false
set_option linter.all false
set_option maxRecDepth 100000
set_option maxHeartbeats 4000000
namespace K20
open PySem L2 RF
seal L2.PE L2.PA L2.PS L2.PSs L2.PT L2.PG L2.PI L2.PK L2.PO L2.PEx L2.PSx L2.PSxs L2.PH L2.PW L2.PGs L2.OpR L2.CallR L2.SlR L2.IxR
section
variable {P : Program} {w : World} {K : PySem.W.Frag} {mg : Str → Option Value} {base : Heap} {cR cT cI cG : Addr}
theorem merge_val {κ : Type} [DecidableEq κ] : ∀ (kvs : List (κ × V)) (acc : List (κ × V)), (kvs.map (·.1)).Nodup → ∀ (j : Nat) kv, kvs[j]? = some kv → valV (kvs.foldl (fun acc kv => putK acc kv.1 kv.2) acc) kv.1 = some kv.2 := by
  have keep : ∀ (kvs : List (κ × V)) (acc : List (κ × V)) (k : κ) (v : V), k ∉ kvs.map (·.1) → valV acc k = some v → valV (kvs.foldl (fun acc kv => putK acc kv.1 kv.2) acc) k = some v := by
    intro kvs
    induction kvs with
    | nil => exact fun _ _ _ _ h => h
    | cons x r ih =>
      intro acc k v hk h
      rw [List.map_cons, List.mem_cons, not_or] at hk
      exact ih _ k v hk.2 (by rw [valV_put, if_neg hk.1]; exact h)
  intro kvs
  induction kvs with
  | nil => intro acc _ j kv e; cases e
  | cons x r ih =>
    intro acc nd j kv e
    rw [List.map_cons, List.nodup_cons] at nd
    cases j with
    | zero => cases e; exact keep r _ _ _ nd.1 (by rw [valV_put, if_pos rfl])
    | succ j => exact ih _ nd.2 j kv (by simpa using e)
inductive isp_vin (cI : Addr) (a b : V) (H : Hp) (Q : VK) (E : XK) : Prop
  | mk (l li : Addr) (as : List Addr) (rs : List PR) (ws : List Int) (h0 : a = .ref l) (h1 : H l = some (.lst (as.map V.ref))) (h2 : RowsAt H as rs) (h3 : rs.length ≤ 60) (h4 : ∀ r ∈ rs, PR.head r = "in" → isIn r = true) (h5 : (rs.map PR.name).Nodup) (h6 : b = .ref li) (h7 : H li = some (.lst (ws.map V.int))) (h8 : ws.length ≤ 100)
      (q : (GoodIn rs ws → ∀ d kvs H', Same H H' → H d = none → H' d = some (.dK kvs) → kvs.length ≤ 60 → (∀ (j : Nat) nm lo hi v, (rs.filter isIn)[j]? = some (.inp nm lo hi) → ws[j]? = some v → valV kvs (Sum.inr nm) = some (.int v)) → Q (.ref d) H') ∧ (¬ GoodIn rs ws → ∀ H', Same H H' → E (.ref cI) none H')) : isp_vin cI a b H Q E
noncomputable def sp_vin (cI : Addr) : Sp := Sp2 (isp_vin cI)
theorem in_of {r : PR} (h : isIn r = true) : ∃ nm lo hi, r = .inp nm lo hi := by
  cases r with
  | inp nm lo hi => exact ⟨nm, lo, hi, rfl⟩
  | _ => cases h
noncomputable abbrev s_values_of_inputs : Stmt := top 17
theorem sc_values_of_inputs : FnScope ["program", "inputs", "rows", "row", "number"] ["program", "inputs"] (defScope s_values_of_inputs) := ⟨rfl, rfl, rfl, by decide +kernel, rfl, by decide +kernel, by decide +kernel⟩
theorem b_values_of_inputs : BindsAll "values_of_inputs" s_values_of_inputs ["program", "inputs"] := binds2 fun _ _ _ _ _ _ _ _ => rfl
theorem ok_vin (D : Def K mg "values_of_inputs" s_values_of_inputs) (T : Txt K mg cR cT cI cG) (F_rows_of : FnS P w K mg base "rows_of" ["program", "deed"] 1 sp_rows_of) : FnS P w K mg base "values_of_inputs" ["program", "inputs"] 2 (sp_vin cI) := by
  refine D.ok sc_values_of_inputs b_values_of_inputs sp2_len fun f cdv A outer s H vs Q E hr h => ?_
  obtain ⟨_, _, rfl, l, li, as, rs, ws, rfl, el, R, r60, hh, nd, rfl, ei, w100, good, bad⟩ := h
  refine ⟨_, (pss_cons (ps_set (i := 2) sc_values_of_inputs.nd rfl (Or.inl rfl) (cFn F_rows_of hr passes0 (ac (pv 0) (ac pe_str pa_nil))))
      (pss_cons (ps_if (pt_cmpR op_ne (cBi call0len (by rfl) T.len PyProof.Rows.Boot.«len» (ac (pv 2) pa_nil)) (cBi call0len (by rfl) T.len PyProof.Rows.Boot.«len» (ac (pv 1) pa_nil)) (nomark _))
        (pss_one (ps_raise T.x_BadInput T.BadInput (ac pe_str pa_nil)))
        pss_nil)
      (pss_cons (ps_for own_pass rfl (pi_zip .L .L rfl T.zip (ac (pv 2) (ac (pv 1) pa_nil))) (pg_tup (n := 2) rfl (pgs_cons (pg_name (i := 3) sc_values_of_inputs.nd rfl (Or.inl rfl)) (pgs_cons (pg_name (i := 4) sc_values_of_inputs.nd rfl (Or.inl rfl)) pgs_nil)))
        (pss_one (ps_if (pt_not (pt_chain op_le op_le (pe_ix ix0T (pv 3) pe_int (fun _ _ => rfl)) (pv 4) (pe_ix ix0T (pv 3) pe_int (fun _ _ => rfl))))
          (pss_one (ps_raise T.x_BadInput T.BadInput (ac pe_str pa_nil)))
          pss_nil)))
      (pss_one (ps_ret (cTy (call_dictP rfl) (by rfl) T.dict PyProof.Rows.Boot.«dict» (ac (pe_comp (lv := 2) (caps := []) (N' := ["row", "number"]) rfl (CompOk.alone rfl (by decide +kernel) (by decide +kernel) rfl) (keep_two (by decide) (by decide)) (pi_zip .L .L rfl T.zip (ac (pv 2) (ac (pv 1) pa_nil))) (fun _ _ _ _ => pg_tupK (n := 2) K rfl (pgs_cons (pg_name (i := 0) (show (["row", "number"] : List Str).Nodup by decide +kernel) rfl (Or.inl rfl)) (pgs_cons (pg_name (i := 1) (show (["row", "number"] : List Str).Nodup by decide +kernel) rfl (Or.inl rfl)) pgs_nil))) (fun _ _ _ _ => (pe_tup (ac (pe_ix ix0T (pv 0) pe_int (fun _ _ => rfl)) (ac (pv 1) pa_nil))))) pa_nil))))))), ?_⟩
  try (set_option simprocs false in dsimp only [cxOf])
  have s300 : (300 : Nat) ≤ sizeLine := by decide
  refine ⟨_, rfl, _, _, rfl, l, as, rs, rfl, el, R, r60, hh, rfl, fun lf bs H1 S1 fl ef RB => ?_⟩
  have ei := S1 _ _ ei
  have bl := RB.len
  have nl : bs.length ≤ 60 := by rw [bl]; exact Nat.le_trans (List.length_filter_le _ _) r60
  refine ⟨_, rfl, lf, _, rfl, .inl (SqL.of ef), _, rfl, li, _, rfl, .inl (SqL.of ei), rfl, _, rfl, iteE (fun h => ?_) (fun h => ?_)⟩
  · refine ⟨by decide, bad (fun g => ?_) _ S1⟩
    have h : ¬ ((bs.map V.ref).length : Int) = ((ws.map V.int).length : Int) := fun z => by
      rw [decide_eq_true (congrArg V.int z)] at h; cases h
    rw [List.length_map, List.length_map, bl] at h
    exact h (by rw [g.1]; rfl)
  have hlen : bs.length = ws.length := by
    have h : V.int ((bs.map V.ref).length : Int) = V.int ((ws.map V.int).length : Int) := of_decide_eq_true (by simpa using h)
    have h := V.int.inj h
    rw [List.length_map, List.length_map] at h
    omega
  refine ⟨_, rfl, _, rfl, lf, li, rfl, ⟨_, SqL.of ef⟩, ⟨_, SqL.of ei⟩, for_zip (K := K) (k1 := .L) (k2 := .L) (xs := bs.map V.ref) (ys := ws.map V.int)
    (fun i σ H' => ∃ (y3 y4 : Option V), σ = [some (.ref l), some (.ref li), some (.ref lf), y3, y4] ∧ Same H1 H' ∧ ∀ (j : Nat) nm lo hi v, j < i → (rs.filter isIn)[j]? = some (.inp nm lo hi) → ws[j]? = some v → lo ≤ v ∧ v ≤ hi)
    ⟨_, _, rfl, Same.refl _, fun j _ _ _ _ hj => absurd hj (Nat.not_lt_zero _)⟩ (fun i σ H' ⟨_, _, _, S, _⟩ => ⟨SqL.of (S _ _ ef), SqL.of (S _ _ ei)⟩) ?_ ?_⟩
  · rintro i x y p σ H' hx hy ⟨y3, y4, rfl, S, hb⟩ hp
    obtain ⟨b, hb', rfl⟩ := ints_ref hx
    obtain ⟨v, hv, rfl⟩ := ints_at hy
    obtain ⟨r, hr', eb⟩ := RB.at hb'
    obtain ⟨nm, lo, hi, rfl⟩ := in_of (List.mem_filter.mp (List.mem_of_getElem? hr')).2
    have NP := Same.new (o := .tup [.ref b, .int v]) hp
    have S := S.trans NP
    have eb := S _ _ eb
    refine ⟨p, _, rfl, SqT.of upd_same, rfl, _, _, rfl, _, _, rfl, rfl, ?_⟩
    generalize upd H' p (.tup [.ref b, .int v]) = H2 at *
    refine ⟨_, rfl, b, _, _, _, rfl, rfl, SqT.of eb, rfl, _, rfl, _, _, rfl, rfl, _, rfl, ?_⟩
    have no : ¬ (lo ≤ v ∧ v ≤ hi) → E (.ref cI) none H2 := fun hn => bad (fun g => hn (g.2 i nm lo hi v hr' hv)) _ (S1.trans S)
    have yes : lo ≤ v → v ≤ hi → ∀ (j : Nat) nm lo hi v, j < i + 1 → (rs.filter isIn)[j]? = some (.inp nm lo hi) → ws[j]? = some v → lo ≤ v ∧ v ≤ hi := fun a1 a2 j nm' lo' hi' v' hj e1 e2 => by
      by_cases hz : j = i
      · subst hz
        rw [hr'] at e1; rw [hv] at e2
        cases e1; cases e2
        exact ⟨a1, a2⟩
      · exact hb j nm' lo' hi' v' (by omega) e1 e2
    by_cases h1 : lo ≤ v
    · rw [decide_eq_true h1]
      refine iteT ⟨_, rfl, b, _, _, _, rfl, rfl, SqT.of eb, rfl, _, _, rfl, rfl, _, rfl, ?_⟩
      by_cases h2 : v ≤ hi
      · rw [decide_eq_true h2]
        exact iteF ⟨_, _, rfl, S, yes h1 h2⟩
      · rw [decide_eq_false h2]
        exact iteT ⟨by decide, no fun z => h2 z.2⟩
    · rw [decide_eq_false h1]
      refine iteF ⟨_, rfl, ?_⟩
      exact iteT ⟨by decide, no fun z => h1 z.1⟩
  · rintro σ H2 ⟨y3, y4, rfl, S, hb⟩
    have hb : ∀ (j : Nat) nm lo hi v, j < min (bs.map V.ref).length (ws.map V.int).length → (rs.filter isIn)[j]? = some (.inp nm lo hi) → ws[j]? = some v → lo ≤ v ∧ v ≤ hi := hb
    rw [List.length_map, List.length_map, hlen, Nat.min_self] at hb
    have G : GoodIn rs ws := ⟨by rw [← hlen, bl]; rfl, fun j nm lo hi v e1 e2 => hb j nm lo hi v (List.getElem?_eq_some_iff.mp e2).1 e1 e2⟩
    have ef2 := S _ _ ef
    have ei2 := S _ _ ei
    have RB2 := RB.up S
    refine ⟨_, rfl, _, rfl, lf, li, rfl, ⟨_, SqL.of ef2⟩, ⟨_, SqL.of ei2⟩, comp_eachI (J := Itz K .L .L lf li) ws.length (by omega)
      (fun D i ys H' => ∃ ts : List Addr, ys = ts.map V.ref ∧ ts.length = i ∧ ∀ (j : Nat) t, ts[j]? = some t → ∃ nm lo hi v, (rs.filter isIn)[j]? = some (.inp nm lo hi) ∧ ws[j]? = some v ∧ H' t = some (.tup [.str nm, .int v])) ?_ ?_ ?_ ?_ ?_⟩
    · exact fun D hD => ⟨[], rfl, rfl, fun j t e => by cases e⟩
    · exact fun i H' h S' => ⟨bs.map V.ref, ws.map V.int, _, _, S'.knd (k := .L) (SqL.of ef2), S'.knd (k := .L) (SqL.of ei2), List.getElem?_eq_getElem (by rw [List.length_map]; omega), List.getElem?_eq_getElem (by rw [List.length_map]; omega)⟩
    · exact fun H' S' => ⟨bs.map V.ref, ws.map V.int, S'.knd (k := .L) (SqL.of ef2), S'.knd (k := .L) (SqL.of ei2), .inr (by rw [List.length_map]; exact Nat.le_refl _)⟩
    · rintro DD i x ys H3 H4 hi hD S3 eD ⟨ts, rfl, tl, ht⟩ hy Q' k
      obtain ⟨p, u, v, rfl, hp, rfl, hu, hv⟩ := hy
      have hu := hu _ (S3.knd (k := .L) (SqL.of ef2))
      have hv := hv _ (S3.knd (k := .L) (SqL.of ei2))
      obtain ⟨b, hb', rfl⟩ := ints_ref hu
      obtain ⟨z, hz, rfl⟩ := ints_at hv
      obtain ⟨r, hr', eb⟩ := RB2.at hb'
      obtain ⟨nm, lo, hi', rfl⟩ := in_of (List.mem_filter.mp (List.mem_of_getElem? hr')).2
      have N := Same.new (o := .tup [.ref b, .int z]) hp
      have eb4 := (S3.trans N) _ _ eb
      refine ⟨p, _, rfl, SqT.of upd_same, rfl, _, _, rfl, _, _, rfl, rfl, _, rfl, b, _, _, _, rfl, rfl, SqT.of eb4, rfl, _, rfl, (by show 2 ≤ sizeLine; decide), fun t ft => ?_⟩
      have N2 := Same.new (o := .tup [.str nm, .int z]) ft
      have dt : DD ≠ t := fun e => by rw [← e] at ft; rw [N _ _ eD] at ft; cases ft
      refine k (.ref t) _ (N.trans N2) ⟨ts ++ [t], by rw [List.map_append]; rfl, by rw [List.length_append, tl]; rfl, fun j t' e => ?_⟩
      rcases Nat.lt_or_ge j ts.length with hj | hj
      · rw [List.getElem?_append_left hj] at e
        obtain ⟨nm', lo', hi'', v', e1, e2, e3⟩ := ht j t' e
        refine ⟨nm', lo', hi'', v', e1, e2, ?_⟩
        rw [upd_ne fun e => by rw [e, eD] at e3; cases e3]
        exact (N.trans N2) _ _ e3
      · rw [List.getElem?_append_right hj] at e
        have hz' : j - ts.length = 0 := by
          have := (List.getElem?_eq_some_iff.mp e).1
          simp at this
          omega
        rw [hz'] at e
        cases e
        have : j = i := by omega
        subst this
        exact ⟨nm, lo, hi', z, hr', hz, by rw [upd_ne (Ne.symm dt)]; exact upd_same⟩
    · rintro DD ys H3 hD S3 eD ⟨ts, rfl, tl, ht⟩
      have lz : ((rs.filter isIn).zipWith (fun r z => ((Sum.inr r.name : Key), V.int z)) ws).length = ws.length := by rw [List.length_zipWith, ← bl, hlen, Nat.min_self]
      have zat : ∀ (j : Nat) nm lo hi v, (rs.filter isIn)[j]? = some (.inp nm lo hi) → ws[j]? = some v → ((rs.filter isIn).zipWith (fun r z => ((Sum.inr r.name : Key), V.int z)) ws)[j]? = some (Sum.inr nm, V.int v) := fun j nm lo hi v e1 e2 => by
        rw [List.getElem?_zipWith, e1, e2]; rfl
      have kn : (((rs.filter isIn).zipWith (fun r z => ((Sum.inr r.name : Key), V.int z)) ws).map (·.1)).Nodup := by
        have e : ((rs.filter isIn).zipWith (fun r z => ((Sum.inr r.name : Key), V.int z)) ws).map (·.1) = ((rs.filter isIn).map PR.name).map Sum.inr := by
          rw [List.map_zipWith, List.map_map]
          refine List.ext_getElem (by rw [List.length_zipWith, List.length_map, ← bl, hlen, Nat.min_self]) fun i h1 h2 => ?_
          rw [List.getElem_zipWith, List.getElem_map]; rfl
        rw [e]
        refine List.Pairwise.map (R := fun a b : Str => a ≠ b) _ (fun a b hab z => hab (Sum.inr.inj z)) ?_
        exact List.Pairwise.sublist (List.Sublist.map _ List.filter_sublist) nd
      refine ⟨DD, ts.map V.ref, (rs.filter isIn).zipWith (fun r z => ((Sum.inr r.name : Key), V.int z)) ws, rfl, eD, by rw [List.length_map, tl, lz], fun j x kv e1 e2 => ?_, fun d hd => ?_⟩
      · obtain ⟨t, e, rfl⟩ := ints_ref e1
        obtain ⟨nm, lo, hi, v, f1, f2, f3⟩ := ht j t e
        rw [zat j nm lo hi v f1 f2] at e2
        cases e2
        exact ⟨t, rfl, f3⟩
      · have N := Same.new (o := .dK (mergeK [] ((rs.filter isIn).zipWith (fun r z => ((Sum.inr r.name : Key), V.int z)) ws))) hd
        have SS := S1.trans (S.trans S3)
        refine good G d _ _ (SS.trans N) (SS.free hd) upd_same ?_ fun j nm lo hi v e1 e2 => merge_val _ _ kn j _ (zat j nm lo hi v e1 e2)
        have := length_mergeK ((rs.filter isIn).zipWith (fun r z => ((Sum.inr r.name : Key), V.int z)) ws) []
        rw [List.length_nil, lz] at this
        omega
end
end K20
set_option Elab.async false
set_option linter.all false
set_option maxRecDepth 100000
set_option maxHeartbeats 4000000
namespace K20
open PySem L2 RF
seal L2.PE L2.PA L2.PS L2.PSs L2.PT L2.PG L2.PI L2.PK L2.PO L2.PEx L2.PSx L2.PSxs L2.PH L2.PW L2.PGs L2.OpR L2.CallR L2.SlR L2.IxR
section
variable {P : Program} {w : World} {K : PySem.W.Frag} {mg : Str → Option Value} {base : Heap} {cR cT cI cG : Addr}
noncomputable def FirstBad (kept : List Int) (ns : List Int) (j : Nat) : Prop := (∃ n, ns[j]? = some n ∧ ¬ Fits kept n) ∧ ∀ (i : Nat) n, i < j → ns[i]? = some n → Fits kept n
inductive isp_run (cI cG : Addr) (a b c : V) (H : Hp) (Q : VK) (E : XK) : Prop
  | mk (kept spare : List Int) (l li : Addr) (as : List Addr) (rs : List PR) (ws : List Int) (h0 : Bas H a kept spare) (h1 : b = .ref l) (h2 : H l = some (.lst (as.map V.ref))) (h3 : RowsAt H as rs) (h4 : rs.length ≤ 60) (h5 : AllOk noneK rs) (h6 : (rs.map PR.name).Nodup) (h7 : c = .ref li) (h8 : H li = some (.lst (ws.map V.int))) (h9 : ws.length ≤ 100)
      (q1 : ¬ GoodIn rs ws → ∀ H', Same H H' → E (.ref cI) none H')
      (q2 : GoodIn rs ws → ∀ (j : Nat), FirstBad kept (walkN noneF ws rs) j → ∀ d H', Same H H' → H' d = some (.xd [("row", .int ((j + 1 : Nat) : Int))]) → E (.ref cG) (some d) H')
      (q3 : GoodIn rs ws → (∀ n ∈ walkN noneF ws rs, Fits kept n) → ∀ lt ps H', Same H H' → ToldF H H' (kept ++ spare) lt ps (saidOf rs (walkN noneF ws rs)) → Q (.ref lt) H') : isp_run cI cG a b c H Q E
noncomputable def sp_run (cI cG : Addr) : Sp := Sp3 (isp_run cI cG)
theorem FigsAt.is {H : Hp} {ds : List Int} {ps : List (Addr × Addr)} {xs : List (Str × Int)} (h : FigsAt H ds ps xs) : ∀ p ∈ ps, ∃ ys, H p.2 = some (.lst ys) := by
  induction h with
  | nil => intro p hp; cases hp
  | cons h h' _ ih =>
    intro p hp
    rcases List.mem_cons.mp hp with rfl | hp
    · exact ⟨_, h'⟩
    · exact ih p hp
theorem nd_ne {rs : List PR} (nd : (rs.map PR.name).Nodup) {i j : Nat} {r r' : PR} (hi : rs[i]? = some r) (hj : rs[j]? = some r') (hij : i < j) : r'.name ≠ r.name := fun e => by
  obtain ⟨h1, e1⟩ := List.getElem?_eq_some_iff.mp hi
  obtain ⟨h2, e2⟩ := List.getElem?_eq_some_iff.mp hj
  have := (List.pairwise_iff_getElem.mp nd) i j (by rw [List.length_map]; exact h1) (by rw [List.length_map]; exact h2) hij
  rw [List.getElem_map, List.getElem_map, e1, e2] at this
  exact this e.symm
theorem nin_lt {rs : List PR} {i : Nat} {r : PR} (h : rs[i]? = some r) (hi : isIn r = true) : nin (rs.take i) < nin rs := (List.getElem?_eq_some_iff.mp (filt_at h hi)).1
theorem ok_heads {rs : List PR} (ok : AllOk noneK rs) : ∀ r ∈ rs, PR.head r = "in" → isIn r = true := fun r hr hh => by
  obtain ⟨i, hi⟩ := List.getElem?_of_mem hr
  rcases head_in (ok.at hi).1 with hn | ⟨nm, lo, hi', rfl, _⟩
  · exact absurd hh hn
  · rfl
theorem put_len (kvs : List (Key × V)) (k : Key) (v : V) : (putK kvs k v).length ≤ kvs.length + 1 := length_putK kvs k v
noncomputable abbrev s_run : Stmt := top 16
theorem sc_run : FnScope ["base", "program", "inputs", "values", "told", "number", "row", "value"] ["base", "program", "inputs"] (defScope s_run) := ⟨rfl, rfl, rfl, by decide +kernel, rfl, by decide +kernel, by decide +kernel⟩
theorem b_run : BindsAll "run" s_run ["base", "program", "inputs"] := binds3 fun _ _ _ _ _ _ _ _ _ => rfl
theorem ok_run (D : Def K mg "run" s_run) (T : Txt K mg cR cT cI cG) (F_RowTooGreat : RowI P w K mg base "RowTooGreat" cG "row" 1) (F_values_of_inputs : FnS P w K mg base "values_of_inputs" ["program", "inputs"] 2 (sp_vin cI)) (F_value_of : FnS P w K mg base "value_of" ["row", "values"] 2 sp_pval) (F_fits : FnS P w K mg base "fits" ["base", "number"] 4 sp_fits) (F_figure_of : FnS P w K mg base "figure_of" ["base", "number"] 5 (sp_figure cT)) : FnS P w K mg base "run" ["base", "program", "inputs"] 6 (sp_run cI cG) := by
  refine D.ok sc_run b_run sp3_len fun f cdv A outer s H vs Q E hr h => ?_
  obtain ⟨_, _, _, rfl, kept, spare, l, li, as, rs, ws, B, rfl, el, R, r60, ok, nd, rfl, ei, w100, q1, q2, q3⟩ := h
  obtain ⟨⟨tb, rfl, hb⟩, gb⟩ := id B
  refine ⟨_, (pss_cons (ps_set (i := 3) sc_run.nd rfl (Or.inl rfl) (cFn F_values_of_inputs hr passes1 (ac (pv 1) (ac (pv 2) pa_nil))))
      (pss_cons (ps_set (i := 4) sc_run.nd rfl (Or.inl rfl) (pe_lst pa_nil))
      (pss_cons (ps_for own_pass rfl (pi_enum1 rfl T.enumerate (ac (pv 1) pa_nil)) (pg_tup (n := 2) rfl (pgs_cons (pg_name (i := 5) sc_run.nd rfl (Or.inl rfl)) (pgs_cons (pg_name (i := 6) sc_run.nd rfl (Or.inl rfl)) pgs_nil)))
        (pss_cons (ps_set (i := 7) sc_run.nd rfl (Or.inl rfl) (cFn F_value_of hr passes0 (ac (pv 6) (ac (pv 3) pa_nil))))
        (pss_cons (ps_if (pt_not (pt_val (cFn F_fits hr passes0 (ac (pv 0) (ac (pv 7) pa_nil)))))
          (pss_one (ps_raiseRI F_RowTooGreat hr (ac (pv 5) pa_nil)))
          pss_nil)
        (pss_cons (ps_dput (hu1 hr) (pv 3) (pe_ix ix0T (pv 6) pe_int (fun _ _ => rfl)) (pv 7) rfl)
        (pss_one (ps_expr (pe_bm PySem.F.plainAttrs_list PySem.F.slot_list_append PySem.F.type_list_append mt_append (pv 4) (ac (pe_tup (ac (pe_ix ix0T (pv 6) pe_int (fun _ _ => rfl)) (ac (cFn F_figure_of hr passes1 (ac (pv 0) (ac (pv 7) pa_nil))) pa_nil))) pa_nil))))))))
      (pss_one (ps_ret (pv 4)))))), ?_⟩
  try (set_option simprocs false in dsimp only [cxOf])
  have s300 : (300 : Nat) ≤ sizeLine := by decide
  refine ⟨_, rfl, _, rfl, _, _, rfl, l, li, as, rs, ws, rfl, el, R, r60, ok_heads ok, nd, rfl, ei, w100, ⟨fun G d kvs0 H1 S1 fd ed kl hv0 => ?_, q1⟩⟩
  refine ⟨by decide, fun lt ft => ?_⟩
  have N1 := Same.new (o := .lst []) ft
  have hlt : H lt = none := S1.free ft
  have nld : lt ≠ d := fun z => by rw [z, ed] at ft; cases ft
  have q2 := q2 G
  have q3 := q3 G
  refine ⟨_, rfl, l, rfl, ⟨_, SqL.of ((S1.trans N1) _ _ el)⟩, for_enum1 (K := K) (xs := as.map V.ref) (fun i σ H' => ∃ (y5 y6 y7 : Option V) (kvs : List (Key × V)) (ps : List (Addr × Addr)), σ = [some (.ref tb), some (.ref l), some (.ref li), some (.ref d), some (.ref lt), y5, y6, y7] ∧ Same H H' ∧ H' d = some (.dK kvs) ∧ kvs.length ≤ 60 + i ∧ (∀ nm v, walkF noneF ws (rs.take i) nm = some v → valV kvs (Sum.inr nm) = some (.int v)) ∧ (∀ (j : Nat) nm lo hi v, i ≤ j → rs[j]? = some (.inp nm lo hi) → ws[nin (rs.take j)]? = some v → valV kvs (Sum.inr nm) = some (.int v)) ∧ H' lt = some (.lst (ps.map fun p => V.ref p.1)) ∧ FigsAt H' (kept ++ spare) ps (saidOf (rs.take i) (walkN noneF ws (rs.take i))) ∧ (∀ p ∈ ps, H p.2 = none ∧ p.2 ≠ lt) ∧ (ps.map fun p => p.2).Nodup ∧ ∀ n ∈ walkN noneF ws (rs.take i), Fits kept n)
    ⟨_, _, _, kvs0, [], rfl, S1.trans N1, N1 _ _ ed, by omega, (fun _ _ z => nomatch z), (fun j nm lo hi v _ e1 e2 => hv0 (nin (rs.take j)) nm lo hi v (filt_at e1 rfl) e2), upd_same, .nil, (fun _ z => nomatch z), List.nodup_nil, (fun _ z => nomatch z)⟩ (fun i σ H' ⟨_, _, _, _, _, _, S, _⟩ => SqL.of (S _ _ el)) ?_ ?_⟩
  rotate_left
  · rintro σ H' ⟨y5, y6, y7, kvs, ps, rfl, S, _, _, _, _, et, FA, new, pnd, fit⟩
    have FA : FigsAt H' (kept ++ spare) ps (saidOf (rs.take (as.map V.ref).length) (walkN noneF ws (rs.take (as.map V.ref).length))) := FA
    have fit : ∀ n ∈ walkN noneF ws (rs.take (as.map V.ref).length), Fits kept n := fit
    rw [List.length_map, R.len, List.take_length] at FA fit
    exact ⟨_, rfl, q3 fit lt ps H' S ⟨et, FA, new, pnd, hlt⟩⟩
  rintro i x pp σ H' hx ⟨y5, y6, y7, kvs, ps, rfl, S, ed, kl, hv, hpd, et, FA, new, pnd, fit⟩ hp
  obtain ⟨a, ha, rfl⟩ := ints_ref hx
  obtain ⟨r, hr', ea⟩ := R.at ha
  have hi := (List.getElem?_eq_some_iff.mp hr').1
  have rok := (ok.at hr').1
  have tk : rs.take (i + 1) = rs.take i ++ [r] := by rw [List.take_add_one, hr']; rfl
  have NP := Same.new (o := .tup [.int ((i + 1 : Nat) : Int), .ref a]) hp
  refine ⟨pp, _, rfl, SqT.of upd_same, rfl, _, _, rfl, _, _, rfl, rfl, ?_⟩
  have S := S.trans NP
  have ed := NP _ _ ed
  have et := NP _ _ et
  have FA := FA.up NP
  generalize upd H' pp (.tup [.int ((i + 1 : Nat) : Int), .ref a]) = H2 at *
  have ea2 := S _ _ ea
  have nat := walkN_at (f := noneF) (vs := ws) hr'
  have wl : (walkN noneF ws rs).length = rs.length := walkN_len ..
  have fitw := fits_walk (kept := kept) (rs := rs.take i) (f := noneF) (vs := ws) (fun _ _ z => nomatch z) fit
  generalize hn : numOf (walkF noneF ws (rs.take i)) (walkL ws (rs.take i)) r = n at nat
  have pv : ∀ (Q' : VK) (E' : XK), Q' (.int n) H2 → isp_pval (.ref a) (.ref d) H2 Q' E' := fun Q' E' q' => by
    rcases head_in rok with hni | ⟨nm, lo, hi', rfl, hle⟩
    · have e := numOf_other (f := walkF noneF ws (rs.take i)) (vs := walkL ws (rs.take i)) (not_in hni)
      rw [hn] at e
      rw [e] at q'
      exact .other r (walkF noneF ws (rs.take i)) kvs a d 130 rfl rfl ea2 ed hv (walk_vok (known_walk (fun _ z => by cases z)) rok (not_in hni)) (by decide) (fun nm v h => fits_big gb (fitw nm v h)) q'
    · have hlt2 : nin (rs.take i) < ws.length := by rw [G.1]; exact nin_lt hr' rfl
      have e : n = ws[nin (rs.take i)] := by
        rw [← hn, walkL_eq, List.drop_eq_getElem_cons hlt2]; rfl
      exact .inp nm lo hi' n kvs a d rfl rfl ea2 ed (hpd i nm lo hi' n (Nat.le_refl _) hr' (by rw [e]; exact List.getElem?_eq_getElem hlt2)) q'
  refine ⟨_, rfl, _, rfl, _, _, rfl, pv _ _ ?_⟩
  clear pv
  have B2 := B.up S
  refine ⟨_, rfl, _, rfl, _, _, rfl, kept, spare, n, B2, rfl, _, rfl, ?_⟩
  by_cases hf : Fits kept n
  rotate_left
  · rw [decide_eq_false hf]
    refine iteT ⟨_, rfl, _, rfl, fun de fde => ?_⟩
    refine q2 i ⟨⟨n, nat, hf⟩, fun j m hj e => fit m ?_⟩ de _ (S.trans (Same.new fde)) upd_same
    rw [walkN_take]
    exact List.mem_of_getElem? (i := j) (by rw [List.getElem?_take_of_lt hj]; exact e)
  rw [decide_eq_true hf]
  obtain ⟨xs, ev⟩ := vals_head r
  have ea1 := ea2
  rw [ev] at ea1
  refine iteF ⟨_, rfl, _, rfl, _, rfl, a, _, _, _, rfl, rfl, SqT.of ea1, at1, d, _, rfl, DPut.k (k := Sum.inr r.name) ed (by omega), ?_⟩
  have fdd : H d = none := fd
  have S3 := S.upd (o := .dK (putK kvs (Sum.inr r.name) (.int n))) fdd
  have ed3 : upd H2 d (.dK (putK kvs (Sum.inr r.name) (.int n))) d = some (.dK (putK kvs (Sum.inr r.name) (.int n))) := upd_same
  have et3 : upd H2 d (.dK (putK kvs (Sum.inr r.name) (.int n))) lt = some (.lst (ps.map fun p => V.ref p.1)) := by rw [upd_ne nld]; exact et
  have FA3 : FigsAt (upd H2 d (.dK (putK kvs (Sum.inr r.name) (.int n)))) (kept ++ spare) ps (saidOf (rs.take i) (walkN noneF ws (rs.take i))) := FA.upd (fun ys z => by rw [ed] at z; cases z) (fun p hp z => by
    obtain ⟨ys, e⟩ := FigsAt.is FA p hp
    rw [z, ed] at e; cases e)
  generalize upd H2 d (.dK (putK kvs (Sum.inr r.name) (.int n))) = H3 at *
  have ea3 := S3 _ _ ea
  rw [ev] at ea3
  have B3 := B.up S3
  refine ⟨_, rfl, .inl ⟨rfl, _, SqL.of et3⟩, _, rfl, a, _, _, _, rfl, rfl, SqT.of ea3, at1, _, rfl, _, rfl, _, _, rfl, kept, spare, n, B3, rfl, ⟨fun _ fl H4 S4 ffl efl => ?_, fun h => absurd hf h⟩⟩
  have et4 := S4 _ _ et3
  refine ⟨(by show 2 ≤ sizeLine; decide), fun t ft4 => ?_⟩
  have N5 := Same.new (o := .tup [.str r.name, .ref fl]) ft4
  have et5 := N5 _ _ et4
  have pl : ps.length = i := by
    rw [FA.len]; unfold saidOf
    rw [List.length_zip, List.length_map, walkN_len, List.length_take, Nat.min_self]; omega
  refine ⟨lt, _, _, rfl, rfl, et5, (by rw [List.length_map, pl]; omega), ?_⟩
  have S5 := S3.trans (S4.trans N5)
  have flt : fl ≠ lt := fun z => by rw [z, et3] at ffl; cases ffl
  have tlt : t ≠ lt := fun z => by rw [z, et4] at ft4; cases ft4
  have FA5 := (FA3.up (S4.trans N5))
  have efl5 := N5 _ _ efl
  have hit : (walkN noneF ws (rs.take (i + 1))) = walkN noneF ws (rs.take i) ++ [n] := by rw [tk, walkN_snoc, hn]
  refine ⟨_, _, _, putK kvs (Sum.inr r.name) (.int n), ps ++ [(t, fl)], rfl, S5.upd hlt, by rw [upd_ne (Ne.symm nld)]; exact (S4.trans N5) _ _ ed3, by have := put_len kvs (Sum.inr r.name) (.int n); omega, ?_, ?_, by rw [upd_same, List.map_append]; rfl, ?_, ?_, ?_, ?_⟩
  · rw [tk, walkF_snoc, hn]
    exact put1 hv
  · intro j nm lo hi' v hj e1 e2
    have nn : nm ≠ r.name := nd_ne nd hr' e1 (by omega)
    rw [valV_put, if_neg fun z => nn (Sum.inr.inj z)]
    exact hpd j nm lo hi' v (by omega) e1 e2
  · rw [hit, tk, said_snoc (by rw [walkN_len])]
    exact FigsAt.snoc (p := (t, fl)) (x := (r.name, n)) (FA5.upd (fun ys z => by rw [et5] at z; cases z) (fun p hp => (new p hp).2)) (by rw [upd_ne tlt]; exact upd_same) (by rw [upd_ne flt]; exact efl5)
  · intro p hp
    rcases List.mem_append.mp hp with hp | hp
    · exact new p hp
    · rw [List.mem_singleton.mp hp]
      exact ⟨S3.free ffl, flt⟩
  · rw [List.map_append, List.nodup_append]
    refine ⟨pnd, List.nodup_cons.mpr ⟨(fun z => nomatch z), List.nodup_nil⟩, fun x hx y hy z => ?_⟩
    obtain ⟨p, hp, rfl⟩ := List.mem_map.mp hx
    obtain ⟨ys, e⟩ := FigsAt.is FA3 p hp
    have hy : y = fl := by simpa using hy
    rw [z, hy, ffl] at e; cases e
  · intro m hm
    rw [hit] at hm
    rcases List.mem_append.mp hm with hm | hm
    · exact fit m hm
    · rw [List.mem_singleton.mp hm]; exact hf
end
end K20
set_option Elab.async false
set_option linter.all false
set_option maxRecDepth 100000
set_option maxHeartbeats 4000000
namespace K20
open PySem L2 RF
seal L2.PE L2.PA L2.PS L2.PSs L2.PT L2.PG L2.PI L2.PK L2.PO L2.PEx L2.PSx L2.PSxs L2.PH L2.PW L2.PGs L2.OpR L2.CallR L2.SlR L2.IxR
section
variable {P : Program} {w : World} {K : PySem.W.Frag} {mg : Str → Option Value} {base : Heap} {cR cT cI cG : Addr}
inductive isp_walked (a b c : V) (H : Hp) (Q : VK) (E : XK) : Prop
  | mk (kept spare : List Int) (l li : Addr) (as : List Addr) (rs : List PR) (ws : List Int) (h0 : Bas H a kept spare) (h1 : b = .ref l) (h2 : H l = some (.lst (as.map V.ref))) (h3 : RowsAt H as rs) (h4 : rs.length ≤ 60) (h5 : AllOk noneK rs) (h7 : c = .ref li) (h8 : H li = some (.lst (ws.map V.int))) (h9 : ws.length = nin rs)
      (q2 : ∀ (j : Nat), FirstBad kept (walkN noneF ws rs) j → ∀ t lt H', Same H H' → H' t = some (.tup [.int ((j : Int) + 1), .ref lt]) → Q (.ref t) H')
      (q3 : (∀ n ∈ walkN noneF ws rs, Fits kept n) → ∀ t lt ps H', Same H H' → H' t = some (.tup [.int 0, .ref lt]) → ToldF H H' (kept ++ spare) lt ps (saidOf rs (walkN noneF ws rs)) → Q (.ref t) H') : isp_walked a b c H Q E
noncomputable def sp_walked : Sp := Sp3 isp_walked
noncomputable abbrev s__law_walked : Stmt := top 35
theorem sc__law_walked : FnScope ["_law_base", "_law_rows", "_law_inputs", "_law_values", "_law_told", "_law_left", "_law_k", "_law_row", "_law_number"] ["_law_base", "_law_rows", "_law_inputs"] (defScope s__law_walked) := ⟨rfl, rfl, rfl, by decide +kernel, rfl, by decide +kernel, by decide +kernel⟩
theorem b__law_walked : BindsAll "_law_walked" s__law_walked ["_law_base", "_law_rows", "_law_inputs"] := binds3 fun _ _ _ _ _ _ _ _ _ => rfl
theorem ok_walked (D : Def K mg "_law_walked" s__law_walked) (T : Txt K mg cR cT cI cG) (F__law_value : FnS P w K mg base "_law_value" ["_law_row", "_law_values"] 1 sp_value) (F__law_span : FnS P w K mg base "_law_span" ["_law_base"] 1 sp_span) (F__law_figure : FnS P w K mg base "_law_figure" ["_law_base", "_law_number"] 1 sp_rests) : FnS P w K mg base "_law_walked" ["_law_base", "_law_rows", "_law_inputs"] 2 sp_walked := by
  refine D.ok sc__law_walked b__law_walked sp3_len fun f cdv A outer s H vs Q E hr h => ?_
  obtain ⟨_, _, _, rfl, kept, spare, l, li, as, rs, ws, B, rfl, el, R, r60, ok, rfl, ei, wlen, q2, q3⟩ := h
  obtain ⟨⟨tb, rfl, hb⟩, gb⟩ := id B
  refine ⟨_, (pss_cons (ps_set (i := 3) sc__law_walked.nd rfl (Or.inl rfl) pe_dnewK)
      (pss_cons (ps_set (i := 4) sc__law_walked.nd rfl (Or.inl rfl) (pe_lst pa_nil))
      (pss_cons (ps_set (i := 5) sc__law_walked.nd rfl (Or.inl rfl) (cTy call0list (by rfl) T.list PyProof.Rows.Boot.«list» (ac (pv 2) pa_nil)))
      (pss_cons (ps_for own_pass rfl (pi_enum rfl T.enumerate (ac (pv 1) pa_nil)) (pg_tup (n := 2) rfl (pgs_cons (pg_name (i := 6) sc__law_walked.nd rfl (Or.inl rfl)) (pgs_cons (pg_name (i := 7) sc__law_walked.nd rfl (Or.inl rfl)) pgs_nil)))
        (pss_cons (ps_setR (i := 8) sc__law_walked.nd rfl (Or.inl rfl) (pe_ifExp (pt_cmpR op_eq (pe_ix ix0T (pv 7) pe_int (fun _ _ => rfl)) pe_str (nomark _)) (pe_bm PySem.F.plainAttrs_list PySem.F.slot_list_pop PySem.F.type_list_pop mt_popAt (pv 5) (ac pe_int pa_nil)) (cFn F__law_value hr passes0 (ac (pv 7) (ac (pv 3) pa_nil)))))
        (pss_cons (ps_if (PW.pt (pw_or (pt_cmpR op_gt (pv 8) (pe_op op_fdiv (cFn F__law_span hr passes0 (ac (pv 0) pa_nil)) pe_int) (nomark _)) (pw_or1 (pt_cmpR op_lt (pv 8) (pe_op op_sub pe_int (pe_op op_fdiv (pe_op op_sub (cFn F__law_span hr passes0 (ac (pv 0) pa_nil)) pe_int) pe_int)) (nomark _)))))
          (pss_one (ps_ret (pe_tup (ac (pe_op op_add (pv 6) pe_int) (ac (pv 4) pa_nil)))))
          pss_nil)
        (pss_cons (ps_dput (hu1 hr) (pv 3) (pe_ix ix0T (pv 7) pe_int (fun _ _ => rfl)) (pv 8) rfl)
        (pss_one (ps_expr (pe_bm PySem.F.plainAttrs_list PySem.F.slot_list_append PySem.F.type_list_append mt_append (pv 4) (ac (pe_tup (ac (pe_ix ix0T (pv 7) pe_int (fun _ _ => rfl)) (ac (cFn F__law_figure hr passes0 (ac (pv 0) (ac (pv 8) pa_nil))) pa_nil))) pa_nil))))))))
      (pss_one (ps_ret (pe_tup (ac pe_int (ac (pv 4) pa_nil))))))))), ?_⟩
  try (set_option simprocs false in dsimp only [cxOf])
  have s300 : (300 : Nat) ≤ sizeLine := by decide
  refine fun d fd => ⟨by decide, fun lt ft => ?_⟩
  have N1 := Same.new (o := .dK []) fd
  have N2 := Same.new (o := .lst []) ft
  have hlt : H lt = none := N1.free ft
  have nld : lt ≠ d := fun z => by rw [z, upd_same] at ft; cases ft
  refine ⟨_, rfl, li, _, rfl, .inl (SqL.of ((N1.trans N2) _ _ ei)), fun lf ff => ?_⟩
  have N3 := Same.new (o := .lst (ws.map V.int)) ff
  have hlf : H lf = none := (N1.trans N2).free ff
  have nlf : lt ≠ lf := fun z => by rw [← z, upd_same] at ff; cases ff
  have ndf : d ≠ lf := fun z => by rw [← z, N2 _ _ upd_same] at ff; cases ff
  have N := N1.trans (N2.trans N3)
  refine ⟨_, rfl, l, rfl, ⟨_, SqL.of (N _ _ el)⟩, for_enum (K := K) (xs := as.map V.ref) (fun i σ H' => ∃ (y6 y7 y8 : Option V) (kvs : List (Key × V)) (ps : List (Addr × Addr)), σ = [some (.ref tb), some (.ref l), some (.ref li), some (.ref d), some (.ref lt), some (.ref lf), y6, y7, y8] ∧ Same H H' ∧ H' d = some (.dK kvs) ∧ kvs.length ≤ i ∧ (∀ nm v, walkF noneF ws (rs.take i) nm = some v → valV kvs (Sum.inr nm) = some (.int v)) ∧ H' lf = some (.lst ((ws.drop (nin (rs.take i))).map V.int)) ∧ H' lt = some (.lst (ps.map fun p => V.ref p.1)) ∧ FigsAt H' (kept ++ spare) ps (saidOf (rs.take i) (walkN noneF ws (rs.take i))) ∧ (∀ p ∈ ps, H p.2 = none ∧ p.2 ≠ lt ∧ p.2 ≠ lf) ∧ (ps.map fun p => p.2).Nodup ∧ ∀ n ∈ walkN noneF ws (rs.take i), Fits kept n)
    ⟨_, _, _, [], [], rfl, N, (N2.trans N3) _ _ upd_same, Nat.le_refl _, (fun _ _ z => nomatch z), upd_same, N3 _ _ upd_same, .nil, (fun _ z => nomatch z), List.nodup_nil, (fun _ z => nomatch z)⟩ (fun i σ H' ⟨_, _, _, _, _, _, S, _⟩ => SqL.of (S _ _ el)) ?_ ?_⟩
  rotate_left
  · rintro σ H' ⟨y6, y7, y8, kvs, ps, rfl, S, _, _, _, _, et, FA, new, pnd, fit⟩
    have FA : FigsAt H' (kept ++ spare) ps (saidOf (rs.take (as.map V.ref).length) (walkN noneF ws (rs.take (as.map V.ref).length))) := FA
    have fit : ∀ n ∈ walkN noneF ws (rs.take (as.map V.ref).length), Fits kept n := fit
    rw [List.length_map, R.len, List.take_length] at FA fit
    refine ⟨_, rfl, (by show 2 ≤ sizeLine; decide), fun t ft' => ?_⟩
    have NT := Same.new (o := .tup [.int 0, .ref lt]) ft'
    exact q3 fit t lt ps _ (S.trans NT) upd_same (ToldF.up ⟨et, FA, fun p hp => ⟨(new p hp).1, (new p hp).2.1⟩, pnd, hlt⟩ NT)
  rintro i x pp σ H' hx ⟨y6, y7, y8, kvs, ps, rfl, S, ed, kl, hv, ef, et, FA, new, pnd, fit⟩ hp
  obtain ⟨a, ha, rfl⟩ := ints_ref hx
  obtain ⟨r, hr', ea⟩ := R.at ha
  have hi := (List.getElem?_eq_some_iff.mp hr').1
  have rok := (ok.at hr').1
  have tk : rs.take (i + 1) = rs.take i ++ [r] := by rw [List.take_add_one, hr']; rfl
  have NP := Same.new (o := .tup [.int (i : Int), .ref a]) hp
  refine ⟨pp, _, rfl, SqT.of upd_same, rfl, _, _, rfl, _, _, rfl, rfl, ?_⟩
  have S := S.trans NP
  have ed := NP _ _ ed
  have ef := NP _ _ ef
  have et := NP _ _ et
  have FA := FA.up NP
  generalize upd H' pp (.tup [.int (i : Int), .ref a]) = H2 at *
  have ea2 := S _ _ ea
  obtain ⟨xs, ev⟩ := vals_head r
  have ea1 := ea2
  rw [ev] at ea1
  have nat := walkN_at (f := noneF) (vs := ws) hr'
  have fitw := fits_walk (kept := kept) (rs := rs.take i) (f := noneF) (vs := ws) (fun _ _ z => nomatch z) fit
  generalize hn : numOf (walkF noneF ws (rs.take i)) (walkL ws (rs.take i)) r = n at nat
  refine ⟨fun v H3 => v = .int n ∧ Same H H3 ∧ H3 d = some (.dK kvs) ∧ H3 lf = some (.lst ((ws.drop (nin (rs.take (i + 1)))).map V.int)) ∧ H3 lt = some (.lst (ps.map fun p => V.ref p.1)) ∧ FigsAt H3 (kept ++ spare) ps (saidOf (rs.take i) (walkN noneF ws (rs.take i))), ?_, ?_⟩
  · refine ⟨_, rfl, a, _, _, _, rfl, rfl, SqT.of ea1, at0, rfl, _, rfl, ?_⟩
    rcases head_in rok with hni | ⟨nm, lo, hi', rfl, hle⟩
    · refine iteFe (decide_eq_false fun z => hni (V.str.inj z)) ?_
      refine ⟨_, rfl, _, rfl, _, _, rfl, r, walkF noneF ws (rs.take i), kvs, a, d, 130, rfl, rfl, ea2, ed, hv, walk_vok (known_walk (fun _ z => by cases z)) rok (not_in hni), (by decide), (fun nm v h => fits_big gb (fitw nm v h)), ?_⟩
      have e := numOf_other (f := walkF noneF ws (rs.take i)) (vs := walkL ws (rs.take i)) (not_in hni)
      rw [hn] at e
      exact ⟨by rw [e], S, ed, by rw [ef, tk, nin_snoc, not_in hni]; rfl, et, FA⟩
    · refine iteTe (decide_eq_true rfl) ?_
      have hlt2 : nin (rs.take i) < ws.length := by rw [wlen]; exact nin_lt hr' rfl
      have e : n = ws[nin (rs.take i)] := by
        rw [← hn, walkL_eq, List.drop_eq_getElem_cons hlt2]; rfl
      have dz : ws.drop (nin (rs.take i)) = n :: ws.drop (nin (rs.take i) + 1) := by rw [List.drop_eq_getElem_cons hlt2, e]
      rw [dz] at ef
      refine ⟨_, rfl, .inl ⟨rfl, _, SqL.of ef⟩, lf, _, 0, 0, _, rfl, rfl, ef, by decide, by decide, sq_idx (i := 0) (n := ((n :: ws.drop (nin (rs.take i) + 1)).map V.int).length) (Int.le_refl 0) (by rw [List.length_map, List.length_cons]; omega), rfl, ?_⟩
      refine ⟨rfl, S.upd hlf, by rw [upd_ne ndf]; exact ed, by rw [tk, nin_snoc]; exact upd_same, by rw [upd_ne nlf]; exact et, FA.upd (fun ys z => by rw [ef] at z; cases z) fun p hp => (new p hp).2.2⟩
  clear ed ef et FA ea1 ea2 S
  rintro _ H3 ⟨rfl, S, ed, ef, et, FA⟩
  have ea2 := S _ _ ea
  have ea1 := ea2
  rw [ev] at ea1
  have B2 := B.up S
  have bad : ¬ Fits kept n → ∀ t H4, Same H H4 → H4 t = some (.tup [.int ((i : Int) + 1), .ref lt]) → Q (.ref t) H4 := fun hf t H4 S4 e4 => q2 i ⟨⟨n, nat, hf⟩, fun j m hj e => fit m (by
    rw [walkN_take]
    exact List.mem_of_getElem? (i := j) (by rw [List.getElem?_take_of_lt hj]; exact e))⟩ t lt H4 S4 e4
  have hit : (walkN noneF ws (rs.take (i + 1))) = walkN noneF ws (rs.take i) ++ [n] := by rw [tk, walkN_snoc, hn]
  have sp := gb.span
  refine ⟨_, rfl, _, rfl, _, rfl, kept, spare, B2, _, _, rfl, rfl, ⟨by decide, by decide⟩, _, _, rfl, rfl, _, rfl, ite2 (fun h => ?_) (fun h => ?_)⟩
  · refine iteT ⟨_, rfl, _, _, rfl, rfl, _, rfl, (by show 2 ≤ sizeLine; decide), fun t ft' => ?_⟩
    exact bad (fun z => by have := z.2; have h := of_decide_eq_true h; unfold RF.highest at this; omega) t _ (S.trans (Same.new ft')) upd_same
  refine ⟨_, rfl, _, rfl, _, rfl, kept, spare, B2, _, _, rfl, rfl, _, _, rfl, rfl, ⟨by decide, by decide⟩, _, _, rfl, rfl, _, _, rfl, rfl, _, rfl, ite2 (fun h2 => ?_) (fun h2 => ?_)⟩
  · refine ⟨_, rfl, _, _, rfl, rfl, _, rfl, (by show 2 ≤ sizeLine; decide), fun t ft' => ?_⟩
    exact bad (fun z => by have := z.1; have h := of_decide_eq_true h2; unfold RF.lowest at this; omega) t _ (S.trans (Same.new ft')) upd_same
  have hf : Fits kept n := by
    have h := of_decide_eq_false (Bool.eq_false_iff.mpr h)
    have h2 := of_decide_eq_false (Bool.eq_false_iff.mpr h2)
    constructor
    · unfold RF.lowest; omega
    · unfold RF.highest; omega
  refine ⟨_, rfl, _, rfl, _, rfl, a, _, _, _, rfl, rfl, SqT.of ea1, at1, d, _, rfl, DPut.k (k := Sum.inr r.name) ed (by omega), ?_⟩
  have S3 := S.upd (o := .dK (putK kvs (Sum.inr r.name) (.int n))) fd
  have ed3 : upd H3 d (.dK (putK kvs (Sum.inr r.name) (.int n))) d = some (.dK (putK kvs (Sum.inr r.name) (.int n))) := upd_same
  have et3 : upd H3 d (.dK (putK kvs (Sum.inr r.name) (.int n))) lt = some (.lst (ps.map fun p => V.ref p.1)) := by rw [upd_ne nld]; exact et
  have ef3 : upd H3 d (.dK (putK kvs (Sum.inr r.name) (.int n))) lf = some (.lst ((ws.drop (nin (rs.take (i + 1)))).map V.int)) := by rw [upd_ne (Ne.symm ndf)]; exact ef
  have FA3 : FigsAt (upd H3 d (.dK (putK kvs (Sum.inr r.name) (.int n)))) (kept ++ spare) ps (saidOf (rs.take i) (walkN noneF ws (rs.take i))) := FA.upd (fun ys z => by rw [ed] at z; cases z) (fun p hp z => by
    obtain ⟨ys, e⟩ := FigsAt.is FA p hp
    rw [z, ed] at e; cases e)
  generalize upd H3 d (.dK (putK kvs (Sum.inr r.name) (.int n))) = H4 at *
  have ea3 := S3 _ _ ea
  rw [ev] at ea3
  have B3 := B.up S3
  refine ⟨_, rfl, .inl ⟨rfl, _, SqL.of et3⟩, _, rfl, a, _, _, _, rfl, rfl, SqT.of ea3, at1, _, rfl, _, rfl, _, _, rfl, kept, spare, n, B3, rfl, fun fl H5 S5 ffl efl => ?_⟩
  have et4 := S5 _ _ et3
  refine ⟨(by show 2 ≤ sizeLine; decide), fun t ft4 => ?_⟩
  have N5 := Same.new (o := .tup [.str r.name, .ref fl]) ft4
  have et5 := N5 _ _ et4
  have pl : ps.length = i := by
    rw [FA.len]; unfold saidOf
    rw [List.length_zip, List.length_map, walkN_len, List.length_take, Nat.min_self]; omega
  refine ⟨lt, _, _, rfl, rfl, et5, (by rw [List.length_map, pl]; omega), ?_⟩
  have S6 := S3.trans (S5.trans N5)
  have flt : fl ≠ lt := fun z => by rw [z, et3] at ffl; cases ffl
  have flf : fl ≠ lf := fun z => by rw [z, ef3] at ffl; cases ffl
  have tlt : t ≠ lt := fun z => by rw [z, et4] at ft4; cases ft4
  have FA5 := (FA3.up (S5.trans N5))
  have efl5 := N5 _ _ efl
  refine ⟨_, _, _, putK kvs (Sum.inr r.name) (.int n), ps ++ [(t, fl)], rfl, S6.upd hlt, by rw [upd_ne (Ne.symm nld)]; exact (S5.trans N5) _ _ ed3, by have := put_len kvs (Sum.inr r.name) (.int n); omega, ?_, by rw [upd_ne (Ne.symm nlf)]; exact (S5.trans N5) _ _ ef3, by rw [upd_same, List.map_append]; rfl, ?_, ?_, ?_, ?_⟩
  · rw [tk, walkF_snoc, hn]
    exact put1 hv
  · rw [hit, tk, said_snoc (by rw [walkN_len])]
    exact FigsAt.snoc (p := (t, fl)) (x := (r.name, n)) (FA5.upd (fun ys z => by rw [et5] at z; cases z) (fun p hp => (new p hp).2.1)) (by rw [upd_ne tlt]; exact upd_same) (by rw [upd_ne flt]; exact efl5)
  · intro p hp
    rcases List.mem_append.mp hp with hp | hp
    · exact new p hp
    · rw [List.mem_singleton.mp hp]
      exact ⟨S3.free ffl, flt, flf⟩
  · rw [List.map_append, List.nodup_append]
    refine ⟨pnd, List.nodup_cons.mpr ⟨(fun z => nomatch z), List.nodup_nil⟩, fun x hx y hy z => ?_⟩
    obtain ⟨p, hp, rfl⟩ := List.mem_map.mp hx
    obtain ⟨ys, e⟩ := FigsAt.is FA3 p hp
    have hy : y = fl := by simpa using hy
    rw [z, hy, ffl] at e; cases e
  · intro m hm
    rw [hit] at hm
    rcases List.mem_append.mp hm with hm | hm
    · exact fit m hm
    · rw [List.mem_singleton.mp hm]; exact hf
end
end K20
set_option Elab.async false
set_option linter.all false
set_option maxRecDepth 100000
set_option maxHeartbeats 4000000
namespace K20
open PySem L2 RF
seal L2.PE L2.PA L2.PS L2.PSs L2.PT L2.PG L2.PI L2.PK L2.PO L2.PEx L2.PSx L2.PSxs L2.PH L2.PW L2.PGs L2.OpR L2.CallR L2.SlR L2.IxR
section
variable {P : Program} {w : World} {K : PySem.W.Frag} {mg : Str → Option Value} {base : Heap} {cR cT cI cG : Addr}
noncomputable abbrev s_bounds_of_row : Stmt := top 22
theorem sc_bounds_of_row : FnScope ["row", "known", "pair", "ends", "one"] ["row", "known"] (defScope s_bounds_of_row) := ⟨rfl, rfl, rfl, by decide +kernel, rfl, by decide +kernel, by decide +kernel⟩
theorem b_bounds_of_row : BindsAll "bounds_of_row" s_bounds_of_row ["row", "known"] := binds2 fun _ _ _ _ _ _ _ _ => rfl
theorem ok_row (D : Def K mg "bounds_of_row" s_bounds_of_row) (T : Txt K mg cR cT cI cG) (F_done : FnS P w K mg base "done" ["deed", "one", "other"] 1 sp_doneP) : FnS P w K mg base "bounds_of_row" ["row", "known"] 2 sp_row := by
  refine D.ok sc_bounds_of_row b_bounds_of_row sp2_len fun f cdv A outer s H vs Q E hr h => ?_
  obtain ⟨_, _, rfl, r, k, kvs, t, d, e, rfl, rfl, et, hd, ok, he, hb, q⟩ := h
  refine ⟨_, (pss_cons (ps_if (pt_cmpR op_eq (pe_ix ix0T (pv 0) pe_int (fun _ _ => rfl)) pe_str (nomark _))
        (pss_one (ps_ret (pe_tup (ac (pe_ix ix0T (pv 0) pe_int (fun _ _ => rfl)) (ac (pe_ix ix0T (pv 0) pe_int (fun _ _ => rfl)) pa_nil)))))
        pss_nil)
      (pss_cons (ps_if (pt_cmpR op_eq (pe_ix ix0T (pv 0) pe_int (fun _ _ => rfl)) pe_str (nomark _))
        (pss_one (ps_ret (pe_tup (ac (pe_ix ix0T (pv 0) pe_int (fun _ _ => rfl)) (ac (pe_ix ix0T (pv 0) pe_int (fun _ _ => rfl)) pa_nil)))))
        pss_nil)
      (pss_cons (ps_if (pt_cmpR op_eq (pe_ix ix0T (pv 0) pe_int (fun _ _ => rfl)) pe_str (nomark _))
        (pss_cons (ps_set (i := 2) sc_bounds_of_row.nd rfl (Or.inl rfl) (pe_dget (hu1 hr) (pv 1) (pe_ix ix0T (pv 0) pe_int (fun _ _ => rfl)) (fun _ _ => rfl)))
        (pss_one (ps_ret (pe_tup (ac (pe_op op_fdivD (pe_ix ix0T (pv 2) pe_int (fun _ _ => rfl)) (pe_ix ix0T (pv 0) pe_int (fun _ _ => rfl))) (ac (pe_op op_fdivD (pe_ix ix0T (pv 2) pe_int (fun _ _ => rfl)) (pe_ix ix0T (pv 0) pe_int (fun _ _ => rfl))) pa_nil))))))
        pss_nil)
      (pss_cons (ps_set (i := 3) sc_bounds_of_row.nd rfl (Or.inl rfl) (pe_lst pa_nil))
      (pss_cons (ps_for own_pass rfl (pi_tup (pe_dget (hu1 hr) (pv 1) (pe_ix ix0T (pv 0) pe_int (fun _ _ => rfl)) (fun _ _ => rfl))) (pg_name (i := 4) sc_bounds_of_row.nd rfl (Or.inr rfl))
        (pss_one (ps_expr (pe_bm PySem.F.plainAttrs_list PySem.F.slot_list_extend PySem.F.type_list_extend mt_extend (pv 3) (ac (pe_comp (lv := 1) (caps := [4, 0]) (N' := ["other", "one", "row"]) rfl (CompOk.caps (sc := defScope s_bounds_of_row) rfl (by decide +kernel) (by decide +kernel) (by decide +kernel) rfl rfl (compcap2 rfl rfl rfl rfl rfl rfl)) (keep_name (by decide)) (pi_tup (pe_dget (hu1 hr) (pv 1) (pe_ix ix0T (pv 0) pe_int (fun _ _ => rfl)) (fun _ _ => rfl))) (fun _ _ _ _ => pg_name (i := 0) (show (["other", "one", "row"] : List Str).Nodup by decide +kernel) rfl (Or.inl rfl)) (fun _ _ _ _ => (cFn F_done hr passes0 (ac (pe_ix ix0T (pv 2) pe_int (fun _ _ => rfl)) (ac (pv 1) (ac (pv 0) pa_nil)))))) pa_nil)))))
      (pss_one (ps_ret (pe_tup (ac (cBi (call_minL rfl) (by rfl) T.min PyProof.Rows.Boot.«min» (ac (pv 3) pa_nil)) (ac (cBi (call_maxL rfl) (by rfl) T.max PyProof.Rows.Boot.«max» (ac (pv 3) pa_nil)) pa_nil)))))))))), ?_⟩
  try (set_option simprocs false in dsimp only [cxOf])
  have two : ∀ {a : V} {b : V}, ([a, b] : List V).length ≤ sizeLine := fun {_ _} => by show 2 ≤ sizeLine; decide
  cases ok with
  | inp nm lo hi hle =>
    refine ⟨_, rfl, t, _, _, _, rfl, rfl, SqT.of et, rfl, rfl, _, rfl, iteT ?_⟩
    refine ⟨_, rfl, t, _, _, _, rfl, rfl, SqT.of et, rfl, _, rfl, t, _, _, _, rfl, rfl, SqT.of et, rfl, two, fun u fu => ?_⟩
    exact q (lo, hi) u _ (Same.new fu) (.inp nm lo hi) upd_same
  | num nm v =>
    refine ⟨_, rfl, t, _, _, _, rfl, rfl, SqT.of et, rfl, rfl, _, rfl, iteF ?_⟩
    refine ⟨_, rfl, t, _, _, _, rfl, rfl, SqT.of et, rfl, rfl, _, rfl, iteT ?_⟩
    refine ⟨_, rfl, t, _, _, _, rfl, rfl, SqT.of et, rfl, _, rfl, t, _, _, _, rfl, rfl, SqT.of et, rfl, two, fun u fu => ?_⟩
    exact q (v, v) u _ (Same.new fu) (.num nm v) upd_same
  | div nm l dd hl hd0 hlog =>
    obtain ⟨p, hp⟩ := Option.isSome_iff_exists.mp hl
    obtain ⟨tp, ev, etp⟩ := hd.val l p hp
    refine ⟨_, rfl, t, _, _, _, rfl, rfl, SqT.of et, rfl, rfl, _, rfl, iteF ?_⟩
    refine ⟨_, rfl, t, _, _, _, rfl, rfl, SqT.of et, rfl, rfl, _, rfl, iteF ?_⟩
    refine ⟨_, rfl, t, _, _, _, rfl, rfl, SqT.of et, rfl, rfl, _, rfl, iteT ?_⟩
    refine ⟨_, rfl, _, rfl, t, _, _, _, rfl, rfl, SqT.of et, rfl, d, _, rfl, ev ▸ DGet.k (k := Sum.inr l) hd.at', ?_⟩
    refine ⟨_, rfl, tp, _, _, _, rfl, rfl, SqT.of etp, rfl, _, rfl, t, _, _, _, rfl, rfl, SqT.of et, rfl, _, _, rfl, rfl, ⟨hd0, hlog⟩, _, rfl, tp, _, _, _, rfl, rfl, SqT.of etp, rfl, _, rfl, t, _, _, _, rfl, rfl, SqT.of et, rfl, _, _, rfl, rfl, ⟨hd0, hlog⟩, two, fun u fu => ?_⟩
    exact q (p.1 / dd, p.2 / dd) u _ (Same.new fu) (.div nm l dd p hp) upd_same
  | two deed nm l r hdd hl hr' =>
    obtain ⟨p, hp⟩ := Option.isSome_iff_exists.mp hl
    obtain ⟨tp, ev, etp⟩ := hd.val l p hp
    obtain ⟨p', hp'⟩ := Option.isSome_iff_exists.mp hr'
    obtain ⟨tq, ev', etq⟩ := hd.val r p' hp'
    have n1 : deed ≠ "in" := by rcases hdd with rfl | rfl | rfl <;> decide
    have n2 : deed ≠ "num" := by rcases hdd with rfl | rfl | rfl <;> decide
    have n3 : deed ≠ "div" := by rcases hdd with rfl | rfl | rfl <;> decide
    have bp := hb l p hp
    have bq := hb r p' hp'
    refine ⟨_, rfl, t, _, _, _, rfl, rfl, SqT.of et, rfl, rfl, _, rfl, iteFe (decide_eq_false fun z => n1 (V.str.inj z)) ?_⟩
    refine ⟨_, rfl, t, _, _, _, rfl, rfl, SqT.of et, rfl, rfl, _, rfl, iteFe (decide_eq_false fun z => n2 (V.str.inj z)) ?_⟩
    refine ⟨_, rfl, t, _, _, _, rfl, rfl, SqT.of et, rfl, rfl, _, rfl, iteFe (decide_eq_false fun z => n3 (V.str.inj z)) ?_⟩
    refine ⟨by decide, fun le fe => ?_⟩
    have N := Same.new (o := .lst []) fe
    refine ⟨_, rfl, _, rfl, t, _, _, _, rfl, rfl, SqT.of (N _ _ et), rfl, d, _, rfl, ev ▸ DGet.k (k := Sum.inr l) (N _ _ hd.at'), tp, rfl, ⟨_, SqT.of (N _ _ etp)⟩, for_tup (K := K) (xs := [.int p.1, .int p.2]) (fun m σ H' => ∃ y : Option V, σ = [some (.ref t), some (.ref d), none, some (.ref le), y] ∧ Same H H' ∧ H' le = some (.lst (((four deed p p').take (2 * m)).map V.int))) ⟨_, rfl, N, upd_same⟩ (fun m σ H' _ ⟨_, _, S, _⟩ => SqT.of (S _ _ etp)) ?_ ?_⟩
    · rintro m x σ H' hx ⟨y, rfl, S, el⟩
      obtain ⟨o, rfl, bo, ho⟩ : ∃ o : Int, x = .int o ∧ Big e o ∧ ∀ zs : List Int, zs = [doneI deed o p'.1, doneI deed o p'.2] → (four deed p p').take (2 * m) ++ zs = (four deed p p').take (2 * (m + 1)) := by
        rcases m with _ | _ | m
        · cases hx; exact ⟨_, rfl, bp.1, fun zs hz => by rw [hz]; rfl⟩
        · cases hx; exact ⟨_, rfl, bp.2, fun zs hz => by rw [hz]; rfl⟩
        · cases hx
      refine ⟨_, rfl, .inl ⟨rfl, _, SqL.of el⟩, _, rfl, _, rfl, t, _, _, _, rfl, rfl, SqT.of (S _ _ et), rfl, d, _, rfl, ev' ▸ DGet.k (k := Sum.inr r) (S _ _ hd.at'), tq, rfl, ⟨_, SqT.of (S _ _ etq)⟩, comp_T (K := K) (xs := [.int p'.1, .int p'.2]) (SqT.of (S _ _ etq)) (by show 2 < sizeLine; decide) (doneV deed o) ?_ ?_⟩
      · intro x hx H2 Q' S2 q'
        obtain ⟨o', rfl, bo'⟩ : ∃ o' : Int, x = .int o' ∧ Big e o' := by
          rcases List.mem_cons.mp hx with z | z
          · exact ⟨_, z, bq.1⟩
          · exact ⟨_, List.mem_singleton.mp z, bq.2⟩
        exact ⟨_, rfl, t, _, _, _, rfl, rfl, SqT.of ((S.trans S2) _ _ et), rfl, _, rfl, _, rfl, _, _, _, rfl, deed, o, o', e, rfl, rfl, rfl, he, bo, bo', q' _ (Same.refl _)⟩
      · intro D2 H2 hD2 S2 e2
        refine ⟨le, D2, _, _, rfl, rfl, S2 _ _ el, e2, ?_, ?_⟩
        · rw [List.length_map, List.length_map]
          have : ((four deed p p').take (2 * m)).length ≤ 4 := Nat.le_trans (List.length_take_le' ..) (by show 4 ≤ 4; decide)
          exact Nat.le_trans (Nat.add_le_add this (by show 2 ≤ 2; decide)) (by decide)
        · refine ⟨_, rfl, (S.trans S2).upd fe, ?_⟩
          rw [upd_same, ← ho _ rfl, List.map_append]; rfl
    · rintro σ H' ⟨y, rfl, S, el⟩
      have el : H' le = some (.lst ((four deed p p').map V.int)) := el
      have nn : four deed p p' ≠ [] := List.cons_ne_nil _ _
      refine ⟨_, rfl, le, _, rfl, SqL.of el, nn, fun a ha la => ⟨_, rfl, le, _, rfl, SqL.of el, nn, fun b hb lb => ⟨two, fun u fu => ?_⟩⟩⟩
      exact q (a, b) u _ (S.trans (Same.new fu)) (.two deed nm l r p p' (a, b) hp hp' ⟨ha, la, hb, lb⟩) upd_same
noncomputable abbrev s_bounds : Stmt := top 21
theorem sc_bounds : FnScope ["program", "known", "told", "row", "pair"] ["program"] (defScope s_bounds) := ⟨rfl, rfl, rfl, by decide +kernel, rfl, by decide +kernel, by decide +kernel⟩
theorem b_bounds : BindsAll "bounds" s_bounds ["program"] := binds1 fun _ _ _ _ _ _ _ => rfl
theorem ok_bounds (D : Def K mg "bounds" s_bounds) (F_bounds_of_row : FnS P w K mg base "bounds_of_row" ["row", "known"] 2 sp_row) : FnS P w K mg base "bounds" ["program"] 3 sp_bounds := by
  refine D.ok sc_bounds b_bounds sp1_len fun f cdv A outer s H vs Q E hr h => ?_
  obtain ⟨_, rfl, l, as, rs, rfl, el, R, r60, ok, hB, q⟩ := h
  refine ⟨_, (pss_cons (ps_set (i := 1) sc_bounds.nd rfl (Or.inl rfl) pe_dnewK)
      (pss_cons (ps_set (i := 2) sc_bounds.nd rfl (Or.inl rfl) (pe_lst pa_nil))
      (pss_cons (ps_for own_pass rfl (pi_list (pv 0)) (pg_name (i := 3) sc_bounds.nd rfl (Or.inl rfl))
        (pss_cons (ps_set (i := 4) sc_bounds.nd rfl (Or.inl rfl) (cFn F_bounds_of_row hr passes0 (ac (pv 3) (ac (pv 1) pa_nil))))
        (pss_cons (ps_dput (hu1 hr) (pv 1) (pe_ix ix0T (pv 3) pe_int (fun _ _ => rfl)) (pv 4) rfl)
        (pss_one (ps_expr (pe_bm PySem.F.plainAttrs_list PySem.F.slot_list_append PySem.F.type_list_append mt_append (pv 2) (ac (pe_tup (ac (pe_ix ix0T (pv 3) pe_int (fun _ _ => rfl)) (ac (pe_ix ix0T (pv 4) pe_int (fun _ _ => rfl)) (ac (pe_ix ix0T (pv 4) pe_int (fun _ _ => rfl)) pa_nil)))) pa_nil)))))))
      (pss_one (ps_ret (pv 2)))))), ?_⟩
  try (set_option simprocs false in dsimp only [cxOf])
  have s300 : (300 : Nat) ≤ sizeLine := by decide
  have three : ∀ {a b c : V}, ([a, b, c] : List V).length ≤ sizeLine := fun {_ _ _} => by show 3 ≤ sizeLine; decide
  refine fun d fd => ⟨by decide, fun lt ft => ?_⟩
  have N1 := Same.new (o := .dK []) fd
  have N2 := Same.new (o := .lst []) ft
  have ne : d ≠ lt := fun z => by rw [← z, upd_same] at ft; cases ft
  have hlt : H lt = none := N1.free ft
  refine ⟨_, rfl, l, rfl, ⟨_, SqL.of ((N1.trans N2) _ _ el)⟩, for_list (K := K) (xs := as.map V.ref) (fun i σ H' => ∃ (y3 y4 : Option V) (kvs : List (Key × V)) (ts : List Addr), σ = [some (.ref l), some (.ref d), some (.ref lt), y3, y4] ∧ Same H H' ∧ DEnds H' d (knows noneK (rs.take i)) kvs ∧ kvs.length ≤ i ∧ H' lt = some (.lst (ts.map V.ref)) ∧ ts.length ≤ i ∧ ToldAt H' ts (tells noneK (rs.take i)))
    ⟨_, _, [], [], rfl, N1.trans N2, ⟨N2 _ _ upd_same, fun _ _ z => nomatch z⟩, Nat.le_refl _, upd_same, Nat.le_refl _, .nil⟩ (fun i σ H' _ ⟨_, _, _, _, _, S, _⟩ => SqL.of (S _ _ el)) ?_ ?_⟩
  · rintro i x σ H' hx ⟨y3, y4, kvs, ts, rfl, S, DE, kl, et, tl, TA⟩
    obtain ⟨a, ha, rfl⟩ := ints_ref hx
    obtain ⟨r, hr', ea⟩ := R.at ha
    have hi := (List.getElem?_eq_some_iff.mp hr').1
    obtain ⟨rok, rbig⟩ := ok.at hr'
    have kb := knows_big (rs := rs.take i) (k := noneK) (e := 130) (Nat.le_refl _) (ok.take i) (fun _ _ z => nomatch z)
    refine ⟨_, rfl, _, rfl, _, _, rfl, r, _, kvs, a, d, _, rfl, rfl, S _ _ ea, DE, rok, hB i, kb, fun p u H2 S2 re eu => ?_⟩
    have ep := re.eq
    subst ep
    have ea2 := (S.trans S2) _ _ ea
    have nmv : ∃ x0 xs0, r.vals = x0 :: .str r.name :: xs0 := by cases r <;> exact ⟨_, _, rfl⟩
    obtain ⟨x0, xs0, ev⟩ := nmv
    rw [ev] at ea2
    have a1 : atI (x0 :: V.str r.name :: xs0) 1 = some (V.str r.name) := atI_nat (j := 1) (xs := x0 :: V.str r.name :: xs0) rfl
    have DE2 := (DE.up S2).put (nm := r.name) eu
    have hd0 : H d = none := fd
    have nlt : ∀ {t : Addr} {xs : List V}, H2 t = some (.tup xs) → t ≠ d := fun {t xs} e z => by rw [z, S2 _ _ DE.at'] at e; cases e
    refine ⟨_, rfl, _, rfl, _, rfl, a, _, _, _, rfl, rfl, SqT.of ea2, a1, d, _, rfl, DPut.k (k := Sum.inr r.name) (S2 _ _ DE.at') (by omega), ?_⟩
    have S3 : Same H (upd H2 d (.dK (putK kvs (Sum.inr r.name) (.ref u)))) := (S.trans S2).upd hd0
    have ea3 : upd H2 d (.dK (putK kvs (Sum.inr r.name) (.ref u))) a = some (.tup (x0 :: .str r.name :: xs0)) := by rw [upd_ne (nlt ea2)]; exact ea2
    have eu3 : upd H2 d (.dK (putK kvs (Sum.inr r.name) (.ref u))) u = some (.tup [.int (endsOf (knows noneK (rs.take i)) r).1, .int (endsOf (knows noneK (rs.take i)) r).2]) := by rw [upd_ne (nlt eu)]; exact eu
    have et3 : upd H2 d (.dK (putK kvs (Sum.inr r.name) (.ref u))) lt = some (.lst (ts.map V.ref)) := by rw [upd_ne ne.symm]; exact S2 _ _ et
    have TA3 : ToldAt (upd H2 d (.dK (putK kvs (Sum.inr r.name) (.ref u)))) ts (tells noneK (rs.take i)) := (TA.up S2).upd d fun hz => by rw [S2 _ _ DE.at'] at hz; cases hz
    have pl := put_len kvs (Sum.inr r.name) (.ref u)
    generalize upd H2 d (.dK (putK kvs (Sum.inr r.name) (.ref u))) = H3 at *
    refine ⟨_, rfl, .inl ⟨rfl, _, SqL.of et3⟩, _, rfl, a, _, _, _, rfl, rfl, SqT.of ea3, a1, _, rfl, u, _, _, _, rfl, rfl, SqT.of eu3, rfl, _, rfl, u, _, _, _, rfl, rfl, SqT.of eu3, rfl, three, fun tn fn => ?_⟩
    have M := Same.new (o := .tup [.str r.name, .int (endsOf (knows noneK (rs.take i)) r).1, .int (endsOf (knows noneK (rs.take i)) r).2]) fn
    refine ⟨lt, _, _, rfl, rfl, M _ _ et3, (by rw [List.length_map]; omega), ?_⟩
    have tk : rs.take (i + 1) = rs.take i ++ [r] := by rw [List.take_add_one, hr']; rfl
    refine ⟨_, _, _, ts ++ [tn], rfl, (S3.trans M).upd hlt, ?_, Nat.le_trans pl (Nat.succ_le_succ kl), by rw [upd_same, List.map_append]; rfl, by rw [List.length_append]; exact Nat.succ_le_succ tl, ?_⟩
    · rw [tk, knows_snoc]
      exact (DE2.up M).updL (M _ _ et3)
    · rw [tk, tells_snoc]
      exact ((TA3.up M).snoc (x := (r.name, endsOf (knows noneK (rs.take i)) r)) upd_same).upd lt fun hz => by rw [M _ _ et3] at hz; cases hz
  · rintro σ H' ⟨y3, y4, kvs, ts, rfl, S, DE, kl, et, tl, TA⟩
    have TA : ToldAt H' ts (tells noneK (rs.take (as.map V.ref).length)) := TA
    rw [List.length_map, R.len, List.take_length] at TA
    exact ⟨_, rfl, q lt ts H' S hlt et TA⟩
end
end K20
set_option Elab.async false
set_option linter.all false
set_option maxRecDepth 100000
set_option maxHeartbeats 4000000
namespace K20
open PySem L2 RF
seal L2.PE L2.PA L2.PS L2.PSs L2.PT L2.PG L2.PI L2.PK L2.PO L2.PEx L2.PSx L2.PSxs L2.PH L2.PW L2.PGs L2.OpR L2.CallR L2.SlR L2.IxR
section
variable {P : Program} {w : World} {K : PySem.W.Frag} {mg : Str → Option Value} {base : Heap} {cR cT cI cG : Addr}
noncomputable def EndsFit (kept : List Int) (rs : List PR) : Prop := ∀ x ∈ tells noneK rs, Fits kept x.2.1 ∧ Fits kept x.2.2
theorem tells_mem {r : PR} {rs : List PR} {i : Nat} (h : rs[i]? = some r) : (r.name, endsOf (knows noneK (rs.take i)) r) ∈ tells noneK rs := by
  have : ∀ (k : Knw) (rs : List PR) (i : Nat), rs[i]? = some r → (tells k rs)[i]? = some (r.name, endsOf (knows k (rs.take i)) r) := fun k rs => by
    induction rs generalizing k with
    | nil => intro i h; cases h
    | cons r' rs ih =>
      intro i h
      cases i with
      | zero => cases h; rfl
      | succ i => exact ih _ i h
  exact List.mem_of_getElem? (this _ _ _ h)
end
end K20
set_option Elab.async false
set_option linter.all false
namespace K20
open PySem L2 RF
noncomputable def two2 (acc : List (List Int)) (p : Int × Int) : List (List Int) := acc.flatMap fun c => [c ++ [p.1], c ++ [p.2]]
noncomputable def corners (ps : List (Int × Int)) : List (List Int) := ps.foldl two2 [[]]
theorem corners_snoc (ps : List (Int × Int)) (p : Int × Int) : corners (ps ++ [p]) = two2 (corners ps) p := by
  unfold corners; rw [List.foldl_append]; rfl
noncomputable def pk (p : Int × Int) (b : Nat) : Int := if b % 2 = 1 then p.2 else p.1
theorem two2_at (p : Int × Int) : ∀ (acc : List (List Int)) (t : Nat), (two2 acc p)[t]? = acc[t / 2]?.map fun c => c ++ [pk p t]
  | [], t => by simp [two2]
  | c :: acc, 0 => rfl
  | c :: acc, 1 => rfl
  | c :: acc, t + 2 => by
    have e : (t + 2) / 2 = t / 2 + 1 := by omega
    have e2 : pk p (t + 2) = pk p t := by unfold pk; rw [Nat.add_mod_right]
    rw [e, e2]
    exact two2_at p acc t
theorem two2_len (p : Int × Int) (acc : List (List Int)) : (two2 acc p).length = 2 * acc.length := by
  induction acc with
  | nil => rfl
  | cons c acc ih =>
    show (two2 acc p).length + 1 + 1 = _
    rw [ih, List.length_cons]; omega
theorem snocInd {α : Type} {P : List α → Prop} (h0 : P []) (h1 : ∀ xs x, P xs → P (xs ++ [x])) (xs : List α) : P xs := by
  rw [← List.reverse_reverse xs]
  generalize xs.reverse = ys
  induction ys with
  | nil => exact h0
  | cons y ys ih => rw [List.reverse_cons]; exact h1 _ _ ih
theorem corners_len (ps : List (Int × Int)) : (corners ps).length = 2 ^ ps.length := by
  induction ps using snocInd with
  | h0 => rfl
  | h1 ps p ih => rw [corners_snoc, two2_len, ih, List.length_append, List.length_singleton, Nat.pow_succ]; omega
theorem corners_at (ps : List (Int × Int)) : ∀ (t : Nat) (c : List Int), (corners ps)[t]? = some c → c.length = ps.length ∧ ∀ j < ps.length, c[j]? = ps[j]?.map fun p => pk p (t / 2 ^ (ps.length - 1 - j)) := by
  induction ps using snocInd with
  | h0 =>
    intro t c h
    have : c = [] := by
      cases t with
      | zero => cases h; rfl
      | succ t => cases h
    subst this
    exact ⟨rfl, fun j hj => absurd hj (Nat.not_lt_zero _)⟩
  | h1 ps p ih =>
    intro t c h
    rw [corners_snoc, two2_at] at h
    obtain ⟨c', h', rfl⟩ := Option.map_eq_some_iff.mp h
    obtain ⟨l, at'⟩ := ih _ _ h'
    refine ⟨by rw [List.length_append, List.length_append, l]; rfl, fun j hj => ?_⟩
    rw [List.length_append, List.length_singleton] at hj ⊢
    by_cases hz : j = ps.length
    · subst hz
      rw [List.getElem?_append_right (Nat.le_of_eq l), List.getElem?_append_right (Nat.le_refl _), l, Nat.sub_self]
      have : ps.length + 1 - 1 - ps.length = 0 := by omega
      rw [this, Nat.pow_zero, Nat.div_one]; rfl
    · have hj : j < ps.length := by omega
      rw [List.getElem?_append_left (by rw [l]; exact hj), List.getElem?_append_left hj, at' j hj]
      have e : ps.length + 1 - 1 - j = (ps.length - 1 - j) + 1 := by omega
      rw [e, Nat.pow_succ, Nat.mul_comm, ← Nat.div_div_eq_div_mul]
noncomputable def endP : PR → Int × Int
  | .inp _ lo hi => (lo, hi)
  | _ => (0, 0)
noncomputable def insOf (rs : List PR) : List (Int × Int) := (rs.filter isIn).map endP
theorem ins_len (rs : List PR) : (insOf rs).length = nin rs := List.length_map _
theorem pk_mid {p : Int × Int} (h : p.1 ≤ p.2) (b : Nat) : p.1 ≤ pk p b ∧ pk p b ≤ p.2 := by
  unfold pk; split
  · exact ⟨h, Int.le_refl _⟩
  · exact ⟨Int.le_refl _, h⟩
theorem in_ord {rs : List PR} (ok : AllOk noneK rs) {j : Nat} {r : PR} (h : (rs.filter isIn)[j]? = some r) : ∃ nm lo hi, r = .inp nm lo hi ∧ lo ≤ hi := by
  have m := List.mem_filter.mp (List.mem_of_getElem? h)
  obtain ⟨i, hi⟩ := List.getElem?_of_mem m.1
  rcases head_in (ok.at hi).1 with hn | h
  · rw [not_in hn] at m; cases m.2
  · exact h
theorem corner_good {rs : List PR} (ok : AllOk noneK rs) {t : Nat} {c : List Int} (h : (corners (insOf rs))[t]? = some c) : GoodIn rs c := by
  obtain ⟨l, ha⟩ := corners_at _ t c h
  rw [ins_len] at l ha
  refine ⟨l, fun j nm lo hi v e1 e2 => ?_⟩
  have hj : j < nin rs := (List.getElem?_eq_some_iff.mp e1).1
  have := ha j hj
  unfold insOf at this
  rw [List.getElem?_map, e1, e2] at this
  have e : v = pk (lo, hi) (t / 2 ^ (nin rs - 1 - j)) := Option.some.inj this
  obtain ⟨nm', lo', hi', z, hle⟩ := in_ord ok e1
  cases z
  rw [e]
  exact pk_mid (p := (lo, hi)) hle _
inductive Look (kept : List Int) (rs : List PR) : Str → List Int → Int → Prop
  | fits (h : EndsFit kept rs) : Look kept rs "fits" [] 0
  | not (h : ¬ EndsFit kept rs) (t : Nat) (c : List Int) (j : Nat) (h1 : (corners (insOf rs))[t]? = some c) (h2 : FirstBad kept (walkN noneF c rs) j) (h3 : ∀ t' < t, ∀ c', (corners (insOf rs))[t']? = some c' → ∀ n ∈ walkN noneF c' rs, Fits kept n) : Look kept rs "not" c ((j : Int) + 1)
  | opn (h : ¬ EndsFit kept rs) (h3 : ∀ c ∈ corners (insOf rs), ∀ n ∈ walkN noneF c rs, Fits kept n) : Look kept rs "open" [] 0
theorem FirstBad.uniq {kept ns : List Int} {i j : Nat} (h : FirstBad kept ns i) (h' : FirstBad kept ns j) : i = j := by
  rcases Nat.lt_trichotomy i j with hl | rfl | hl
  · obtain ⟨n, e, hn⟩ := h.1
    exact absurd (h'.2 i n hl e) hn
  · rfl
  · obtain ⟨n, e, hn⟩ := h'.1
    exact absurd (h.2 j n hl e) hn
theorem FirstBad.not {kept ns : List Int} {i : Nat} (h : FirstBad kept ns i) (h' : ∀ n ∈ ns, Fits kept n) : False := by
  obtain ⟨n, e, hn⟩ := h.1
  exact hn (h' n (List.mem_of_getElem? e))
theorem fit_walk {kept : List Int} {rs : List PR} {ws : List Int} (ok : AllOk noneK rs) (G : GoodIn rs ws) (h : EndsFit kept rs) : ∀ n ∈ walkN noneF ws rs, Fits kept n := by
  have key : ∀ i, i ≤ rs.length → (∀ nm p, knows noneK (rs.take i) nm = some p → ∃ x, walkF noneF ws (rs.take i) nm = some x ∧ Mid p x) ∧ ∀ n ∈ walkN noneF ws (rs.take i), Fits kept n := by
    intro i
    induction i with
    | zero => exact fun _ => ⟨fun _ _ z => (nomatch z), fun _ z => (nomatch z)⟩
    | succ i ih =>
      intro hl
      obtain ⟨hk, hf⟩ := ih (by omega)
      have hr' : rs[i]? = some rs[i] := List.getElem?_eq_getElem (by omega)
      generalize rs[i] = r at hr'
      have tk : rs.take (i + 1) = rs.take i ++ [r] := by rw [List.take_add_one, hr']; rfl
      obtain ⟨rok, _⟩ := ok.at hr'
      have mid : Mid (endsOf (knows noneK (rs.take i)) r) (numOf (walkF noneF ws (rs.take i)) (walkL ws (rs.take i)) r) := by
        rcases head_in rok with hni | ⟨nm, lo, hi', rfl, hle⟩
        · rw [numOf_other (not_in hni)]
          exact val_mid hk rok fun nm lo hi z => by subst z; exact absurd rfl hni
        · have hlt2 : nin (rs.take i) < ws.length := by rw [G.1]; exact nin_lt hr' rfl
          have e : numOf (walkF noneF ws (rs.take i)) (walkL ws (rs.take i)) (.inp nm lo hi') = ws[nin (rs.take i)] := by
            rw [walkL_eq, List.drop_eq_getElem_cons hlt2]; rfl
          rw [e]
          exact G.2 _ nm lo hi' _ (filt_at hr' rfl) (List.getElem?_eq_getElem hlt2)
      have fe := h _ (tells_mem hr')
      rw [tk, knows_snoc, walkF_snoc, walkN_snoc]
      generalize numOf (walkF noneF ws (rs.take i)) (walkL ws (rs.take i)) r = n at mid
      refine ⟨fun nm p hp => ?_, fun m hm => ?_⟩
      · unfold Knw.put at hp
        unfold putF
        by_cases hz : nm = r.name
        · rw [if_pos hz] at hp; cases hp
          exact ⟨n, by rw [if_pos hz], mid⟩
        · rw [if_neg hz] at hp
          obtain ⟨x, hx, m⟩ := hk nm p hp
          exact ⟨x, by rw [if_neg hz]; exact hx, m⟩
      · rcases List.mem_append.mp hm with hm | hm
        · exact hf m hm
        · rw [List.mem_singleton.mp hm]
          exact ⟨Int.le_trans fe.1.1 mid.1, Int.le_trans mid.2 fe.2.2⟩
  have := (key rs.length (Nat.le_refl _)).2
  rwa [List.take_length] at this
end K20
set_option Elab.async false
set_option linter.all false
set_option maxRecDepth 100000
set_option maxHeartbeats 4000000
namespace K20
open PySem L2 RF
seal L2.PE L2.PA L2.PS L2.PSs L2.PT L2.PG L2.PI L2.PK L2.PO L2.PEx L2.PSx L2.PSxs L2.PH L2.PW L2.PGs L2.OpR L2.CallR L2.SlR L2.IxR
section
variable {P : Program} {w : World} {K : PySem.W.Frag} {mg : Str → Option Value} {base : Heap} {cR cT cI cG : Addr}
noncomputable def CornAt (H : Hp) (cs : List Addr) (xs : List (List Int)) : Prop := cs.length = xs.length ∧ ∀ (i : Nat) c x, cs[i]? = some c → xs[i]? = some x → H c = some (.lst (x.map V.int))
theorem CornAt.up {H H' : Hp} {cs : List Addr} {xs : List (List Int)} (h : CornAt H cs xs) (S : Same H H') : CornAt H' cs xs := ⟨h.1, fun i c x e1 e2 => S _ _ (h.2 i c x e1 e2)⟩
theorem CornAt.upd {H : Hp} {cs : List Addr} {xs : List (List Int)} {a : Addr} {o : HO} (h : CornAt H cs xs) (n : ∀ c ∈ cs, c ≠ a) : CornAt (L2.upd H a o) cs xs := ⟨h.1, fun i c x e1 e2 => by rw [upd_ne (n c (List.mem_of_getElem? e1))]; exact h.2 i c x e1 e2⟩
theorem CornAt.snoc {H : Hp} {cs : List Addr} {xs : List (List Int)} {c : Addr} {x : List Int} (h : CornAt H cs xs) (e : H c = some (.lst (x.map V.int))) : CornAt H (cs ++ [c]) (xs ++ [x]) := by
  refine ⟨by rw [List.length_append, List.length_append, h.1]; rfl, fun i c' x' e1 e2 => ?_⟩
  rcases Nat.lt_or_ge i cs.length with hi | hi
  · rw [List.getElem?_append_left hi] at e1
    rw [List.getElem?_append_left (by rw [← h.1]; exact hi)] at e2
    exact h.2 i c' x' e1 e2
  · rw [List.getElem?_append_right hi] at e1
    rw [List.getElem?_append_right (by rw [← h.1]; exact hi)] at e2
    have := (List.getElem?_eq_some_iff.mp e1).1
    have z : i - cs.length = 0 := by rw [List.length_singleton] at this; omega
    rw [← h.1, z] at e2
    rw [z] at e1
    cases e1; cases e2
    exact e
theorem CornAt.at {H : Hp} {cs : List Addr} {xs : List (List Int)} (h : CornAt H cs xs) {i : Nat} {c : Addr} (e : cs[i]? = some c) : ∃ x, xs[i]? = some x ∧ H c = some (.lst (x.map V.int)) := by
  have hi := (List.getElem?_eq_some_iff.mp e).1
  rw [h.1] at hi
  exact ⟨xs[i], List.getElem?_eq_getElem hi, h.2 i c _ e (List.getElem?_eq_getElem hi)⟩
theorem corn_push {H0 H' H2 : Hp} {ln p1 p2 : Addr} {ds : List Addr} {zs : List (List Int)} {ys : List Int} {L : List V} {o1 : HO} (fn : H' ln = none) (S : Same H' H2) (el : H2 ln = some (.lst (ds.map V.ref))) (CD : CornAt H2 ds zs) (nw : ∀ c ∈ ds, H0 c = none ∧ c ≠ ln) (D0 : Dom H0 H2) (f1 : H2 p1 = none) (f2 : upd H2 p1 o1 p2 = none) (hL : L = ys.map V.int) :
    Same H' (upd (upd (upd H2 p1 o1) p2 (.lst L)) ln (.lst (ds.map V.ref ++ [.ref p2]))) ∧ upd (upd (upd H2 p1 o1) p2 (.lst L)) ln (.lst (ds.map V.ref ++ [.ref p2])) ln = some (.lst ((ds ++ [p2]).map V.ref)) ∧ CornAt (upd (upd (upd H2 p1 o1) p2 (.lst L)) ln (.lst (ds.map V.ref ++ [.ref p2]))) (ds ++ [p2]) (zs ++ [ys]) ∧ (∀ c ∈ ds ++ [p2], H0 c = none ∧ c ≠ ln) ∧ Dom H0 (upd (upd (upd H2 p1 o1) p2 (.lst L)) ln (.lst (ds.map V.ref ++ [.ref p2]))) := by
  have N1 := Same.new (o := o1) f1
  have N2 := Same.new (o := .lst L) f2
  have e3 := N2 _ _ (N1 _ _ el)
  have n2 : p2 ≠ ln := fun z => by rw [z, N1 _ _ el] at f2; cases f2
  have h2 : H2 p2 = none := N1.free f2
  refine ⟨(S.trans (N1.trans N2)).upd fn, by rw [upd_same, List.map_append]; rfl, ?_, ?_, fun a e => ?_⟩
  · refine (CD.up (N1.trans N2)).upd (fun c hc => (nw c hc).2) |>.snoc ?_
    rw [upd_ne n2, upd_same, hL]
  · intro c hc
    rcases List.mem_append.mp hc with hc | hc
    · exact nw c hc
    · rw [List.mem_singleton.mp hc]; exact ⟨D0 _ h2, n2⟩
  · have na : a ≠ ln := fun z => by rw [z, upd_same] at e; cases e
    rw [upd_ne na] at e
    exact D0 _ ((N1.trans N2).free e)
theorem two2_take {acc : List (List Int)} {m : Nat} {x : List Int} (p : Int × Int) (h : acc[m]? = some x) : two2 (acc.take (m + 1)) p = two2 (acc.take m) p ++ [x ++ [p.1]] ++ [x ++ [p.2]] := by
  rw [List.take_add_one, h]
  unfold two2
  rw [List.flatMap_append, List.append_assoc]; rfl
inductive isp_iae (a : V) (H : Hp) (Q : VK) (E : XK) : Prop
  | mk (l : Addr) (as : List Addr) (rs : List PR) (h0 : a = .ref l) (h1 : H l = some (.lst (as.map V.ref))) (h2 : RowsAt H as rs) (h3 : rs.length ≤ 60) (h4 : AllOk noneK rs) (h5 : nin rs ≤ 6)
      (q : ∀ lt cs H', Same H H' → H' lt = some (.lst (cs.map V.ref)) → CornAt H' cs (corners (insOf rs)) → (∀ c ∈ cs, H c = none) → Q (.ref lt) H') : isp_iae a H Q E
noncomputable def sp_iae : Sp := Sp1 isp_iae
theorem corn_small {ps : List (Int × Int)} (h : ps.length ≤ 6) : (corners ps).length ≤ 64 := by
  rw [corners_len]
  exact Nat.pow_le_pow_right (n := 2) (by decide) h
noncomputable abbrev s_inputs_at_ends : Stmt := top 24
theorem sc_inputs_at_ends : FnScope ["program", "told", "row", "longer", "chosen"] ["program"] (defScope s_inputs_at_ends) := ⟨rfl, rfl, rfl, by decide +kernel, rfl, by decide +kernel, by decide +kernel⟩
theorem b_inputs_at_ends : BindsAll "inputs_at_ends" s_inputs_at_ends ["program"] := binds1 fun _ _ _ _ _ _ _ => rfl
theorem ok_iae (D : Def K mg "inputs_at_ends" s_inputs_at_ends) (F_rows_of : FnS P w K mg base "rows_of" ["program", "deed"] 1 sp_rows_of) : FnS P w K mg base "inputs_at_ends" ["program"] 2 sp_iae := by
  refine D.ok sc_inputs_at_ends b_inputs_at_ends sp1_len fun f cdv A outer s H vs Q E hr h => ?_
  obtain ⟨_, rfl, l, as, rs, rfl, el, R, r60, ok, n6, q⟩ := h
  refine ⟨_, (pss_cons (ps_set (i := 1) sc_inputs_at_ends.nd rfl (Or.inl rfl) (pe_lst (ac (pe_lst pa_nil) pa_nil)))
      (pss_cons (ps_for own_pass rfl (pi_list (cFn F_rows_of hr passes0 (ac (pv 0) (ac pe_str pa_nil)))) (pg_name (i := 2) sc_inputs_at_ends.nd rfl (Or.inl rfl))
        (pss_cons (ps_set (i := 3) sc_inputs_at_ends.nd rfl (Or.inl rfl) (pe_lst pa_nil))
        (pss_cons (ps_for own_pass rfl (pi_list (pv 1)) (pg_name (i := 4) sc_inputs_at_ends.nd rfl (Or.inl rfl))
          (pss_cons (ps_expr (pe_bm PySem.F.plainAttrs_list PySem.F.slot_list_append PySem.F.type_list_append mt_append (pv 3) (ac (pe_op op0catS (pv 4) (pe_lst (ac (pe_ix ix0T (pv 2) pe_int (fun _ _ => rfl)) pa_nil))) pa_nil)))
          (pss_one (ps_expr (pe_bm PySem.F.plainAttrs_list PySem.F.slot_list_append PySem.F.type_list_append mt_append (pv 3) (ac (pe_op op0catS (pv 4) (pe_lst (ac (pe_ix ix0T (pv 2) pe_int (fun _ _ => rfl)) pa_nil))) pa_nil))))))
        (pss_one (ps_set (i := 1) sc_inputs_at_ends.nd rfl (Or.inl rfl) (pv 3))))))
      (pss_one (ps_ret (pv 1))))), ?_⟩
  try (set_option simprocs false in dsimp only [cxOf])
  have s300 : (300 : Nat) ≤ sizeLine := by decide
  refine ⟨by decide, fun a0 f0 => ⟨by show 1 ≤ sizeLine; omega, fun l0 fl0 => ?_⟩⟩
  have N0 := Same.new (o := .lst []) f0
  have N1 := Same.new (o := .lst [.ref a0]) fl0
  have S0 := N0.trans N1
  have ea0 := N1 _ _ (upd_same : upd H a0 (.lst []) a0 = _)
  have el0 : upd (upd H a0 (.lst [])) l0 (.lst [.ref a0]) l0 = some (.lst ([a0].map V.ref)) := upd_same
  generalize upd (upd H a0 (.lst [])) l0 (.lst [.ref a0]) = H0 at *
  refine ⟨_, rfl, _, _, rfl, l, as, rs, rfl, S0 _ _ el, R.up S0, r60, ok_heads ok, rfl, fun lf bs H1 S1 fl ef RB => ?_⟩
  have S01 := S0.trans S1
  have il := ins_len rs
  refine ⟨lf, rfl, ⟨_, SqL.of ef⟩, for_list (K := K) (xs := bs.map V.ref) (fun i σ H' => ∃ (y2 y3 y4 : Option V) (lt : Addr) (cs : List Addr), σ = [some (.ref l), some (.ref lt), y2, y3, y4] ∧ Same H1 H' ∧ H' lt = some (.lst (cs.map V.ref)) ∧ CornAt H' cs (corners ((insOf rs).take i)) ∧ ∀ c ∈ cs, H c = none)
    ⟨_, _, _, l0, [a0], rfl, Same.refl _, S1 _ _ el0, ⟨rfl, fun i c x e1 e2 => ?_⟩, fun c hc => by rw [List.mem_singleton.mp hc]; exact f0⟩ (fun i σ H' _ ⟨_, _, _, _, _, _, S, _⟩ => SqL.of (S _ _ ef)) ?_ ?_⟩
  · cases i with
    | zero => cases e1; cases e2; exact S1 _ _ ea0
    | succ i => cases e1
  rotate_left
  · rintro σ H' ⟨y2, y3, y4, lt, cs, rfl, S, et, CA, nw⟩
    have CA : CornAt H' cs (corners ((insOf rs).take (bs.map V.ref).length)) := CA
    rw [List.length_map, RB.len, show (rs.filter isIn).length = (insOf rs).length from il.symm, List.take_length] at CA
    exact ⟨_, rfl, q lt cs H' (S01.trans S) et CA nw⟩
  rintro i x σ H' hx ⟨y2, y3, y4, lt, cs, rfl, S, et, CA, nw⟩
  obtain ⟨b, hb, rfl⟩ := ints_ref hx
  obtain ⟨r, hr', eb⟩ := RB.at hb
  obtain ⟨nm, lo, hi, rfl, hle⟩ := in_ord ok hr'
  have tk : (insOf rs).take (i + 1) = (insOf rs).take i ++ [(lo, hi)] := by
    rw [List.take_add_one]
    unfold insOf
    rw [List.getElem?_map, hr']; rfl
  have eb := S _ _ eb
  have ltk : ((insOf rs).take i).length ≤ 6 := Nat.le_trans (List.length_take_le' ..) (by rw [il]; exact n6)
  have cl := corn_small ltk
  generalize hxs : corners ((insOf rs).take i) = acc at *
  have xl : ∀ (m : Nat) x, acc[m]? = some x → x.length ≤ 6 := fun m x h => by
    rw [← hxs] at h
    rw [(corners_at _ _ _ h).1]; exact ltk
  refine ⟨by decide, fun ln fn => ?_⟩
  have NL := Same.new (o := .lst []) fn
  have D0 : Dom H H' := K20.Same.dom (S01.trans S)
  refine ⟨_, rfl, lt, rfl, ⟨_, SqL.of (NL _ _ et)⟩, for_list (K := K) (xs := cs.map V.ref) (fun m σ H2 => ∃ (y4 : Option V) (ds : List Addr), σ = [some (.ref l), some (.ref lt), some (.ref b), some (.ref ln), y4] ∧ Same H' H2 ∧ H2 ln = some (.lst (ds.map V.ref)) ∧ CornAt H2 ds (two2 (acc.take m) (lo, hi)) ∧ (∀ c ∈ ds, H c = none ∧ c ≠ ln) ∧ Dom H H2)
    ⟨_, [], rfl, NL, upd_same, ⟨rfl, fun _ _ _ z => nomatch z⟩, (fun _ z => nomatch z), K20.Same.dom ((S01.trans S).trans NL)⟩ (fun i σ H' _ ⟨_, _, _, S, _⟩ => SqL.of (S _ _ et)) ?_ ?_⟩
  rotate_left
  · rintro σ H2 ⟨y4, ds, rfl, S2, el2, CD, nd, D2⟩
    have CD : CornAt H2 ds (two2 (acc.take (cs.map V.ref).length) (lo, hi)) := CD
    rw [List.length_map, CA.1, List.take_length] at CD
    refine ⟨_, rfl, _, _, _, ln, ds, rfl, S.trans S2, el2, ?_, fun c hc => (nd c hc).1⟩
    rw [tk, corners_snoc, hxs]
    exact CD
  rintro m x σ H2 hx ⟨y4, ds, rfl, S2, el2, CD, nd, D2⟩
  obtain ⟨c, hc, rfl⟩ := ints_ref hx
  obtain ⟨xs, hxx, ec⟩ := CA.at hc
  have hm := (List.getElem?_eq_some_iff.mp hxx).1
  have dl : ds.length ≤ 128 := by
    rw [CD.1, two2_len, List.length_take]; omega
  have x6 := xl m xs hxx
  have eb2 := S2 _ _ eb
  have ec2 := S2 _ _ ec
  refine ⟨_, rfl, .inl ⟨rfl, _, SqL.of el2⟩, _, rfl, _, rfl, b, _, _, _, rfl, rfl, SqT.of eb2, rfl, by show 1 ≤ sizeLine; omega, fun p1 f1 => ?_⟩
  refine ⟨c, p1, _, _, rfl, rfl, SqL.of ((Same.new f1) _ _ ec2), SqL.of upd_same, by rw [List.length_map]; show xs.length + 1 ≤ sizeLine; omega, fun p2 f2 => ?_⟩
  refine ⟨ln, _, _, rfl, rfl, ((Same.new f1).trans (Same.new f2)) _ _ el2, by rw [List.length_map]; omega, ?_⟩
  obtain ⟨S3, el3, CD3, nd3, D3⟩ := corn_push (ys := xs ++ [lo]) (L := xs.map V.int ++ [.int lo]) fn S2 el2 CD nd D2 f1 f2 (by rw [List.map_append]; rfl)
  generalize upd (upd (upd H2 p1 (.lst [.int lo])) p2 (.lst (xs.map V.int ++ [.int lo]))) ln (.lst (ds.map V.ref ++ [.ref p2])) = H3 at *
  have eb3 := S3 _ _ eb
  have ec3 := S3 _ _ ec
  refine ⟨_, rfl, .inl ⟨rfl, _, SqL.of el3⟩, _, rfl, _, rfl, b, _, _, _, rfl, rfl, SqT.of eb3, rfl, by show 1 ≤ sizeLine; omega, fun p3 f3 => ?_⟩
  refine ⟨c, p3, _, _, rfl, rfl, SqL.of ((Same.new f3) _ _ ec3), SqL.of upd_same, by rw [List.length_map]; show xs.length + 1 ≤ sizeLine; omega, fun p4 f4 => ?_⟩
  refine ⟨ln, _, _, rfl, rfl, ((Same.new f3).trans (Same.new f4)) _ _ el3, by rw [List.length_map, List.length_append]; show ds.length + 1 < _; omega, ?_⟩
  obtain ⟨S4, el4, CD4, nd4, D4⟩ := corn_push (ys := xs ++ [hi]) (L := xs.map V.int ++ [.int hi]) fn S3 el3 CD3 nd3 D3 f3 f4 (by rw [List.map_append]; rfl)
  refine ⟨_, _, rfl, S4, el4, ?_, nd4, D4⟩
  rw [two2_take (lo, hi) hxx]
  exact CD4
structure CW (K : PySem.W.Frag) (cG : Addr) : Prop where
  gG : ExcF K cG "row"
  mG : PySem.W.exmOne K (.ref cG) (.ref cG) = some true
inductive isp_rtg (z : V) (a b c : V) (H : Hp) (Q : VK) (E : XK) : Prop
  | mk (kept spare : List Int) (l li : Addr) (as : List Addr) (rs : List PR) (ws : List Int) (h0 : Bas H a kept spare) (h1 : b = .ref l) (h2 : H l = some (.lst (as.map V.ref))) (h3 : RowsAt H as rs) (h4 : rs.length ≤ 60) (h5 : AllOk noneK rs) (h6 : (rs.map PR.name).Nodup) (h7 : c = .ref li) (h8 : H li = some (.lst (ws.map V.int))) (h9 : ws.length ≤ 100) (G : GoodIn rs ws)
      (q2 : ∀ (j : Nat), FirstBad kept (walkN noneF ws rs) j → ∀ H', Same H H' → Q (.int ((j : Int) + 1)) H')
      (q3 : (∀ n ∈ walkN noneF ws rs, Fits kept n) → ∀ H', Same H H' → Q z H') : isp_rtg z a b c H Q E
noncomputable def sp_rtg (z : V) : Sp := Sp3 (isp_rtg z)
noncomputable abbrev s_row_too_great : Stmt := top 25
theorem sc_row_too_great : FnScope ["base", "program", "inputs", "refusal"] ["base", "program", "inputs"] (defScope s_row_too_great) := ⟨rfl, rfl, rfl, by decide +kernel, rfl, by decide +kernel, by decide +kernel⟩
theorem b_row_too_great : BindsAll "row_too_great" s_row_too_great ["base", "program", "inputs"] := binds3 fun _ _ _ _ _ _ _ _ _ => rfl
theorem ok_rtg (D : Def K mg "row_too_great" s_row_too_great) (T : Txt K mg cR cT cI cG) (C : CW K cG) (F_run : FnS P w K mg base "run" ["base", "program", "inputs"] 6 (sp_run cI cG)) : FnS P w K mg base "row_too_great" ["base", "program", "inputs"] 7 (sp_rtg .non) := by
  refine D.ok sc_row_too_great b_row_too_great sp3_len fun f cdv A outer s H vs Q E hr h => ?_
  obtain ⟨_, _, _, rfl, kept, spare, l, li, as, rs, ws, B, rfl, el, R, r60, ok, nd, rfl, ei, w100, G, q2, q3⟩ := h
  refine ⟨_, (pss_cons (ps_try own_cx (psxs_one (psx_expr (xFn own_cx F_run hr (ac (pv 0) (ac (pv 1) (ac (pv 2) pa_nil))))))
        (ph_as (i := 3) own_cx T.RowTooGreat sc_row_too_great.nd rfl rfl (fun _ => (pss_one (ps_ret (pe_exfK K (pv 3))))) ph_nil))
      (pss_one (ps_ret pe_non))), ?_⟩
  try (set_option simprocs false in dsimp only [cxOf])
  refine ⟨_, rfl, _, rfl, _, rfl, _, _, _, rfl, kept, spare, l, li, as, rs, ws, B, rfl, el, R, r60, ok, nd, rfl, ei, w100, fun nG => absurd G nG, ?_, ?_⟩
  · intro _ j fb dd H2 S2 edd
    refine .inl ⟨C.mG, cG, rfl, fun ea hea => ?_⟩
    exact ⟨_, rfl, ea, cG, dd, _, .int ((j + 1 : Nat) : Int), rfl, upd_same, (Same.new hea) _ _ edd, C.gG, rfl, q2 j fb _ (S2.trans (Same.new hea))⟩
  · intro _ fit lt ps H2 S2 TF
    exact q3 fit _ S2
end
end K20
set_option Elab.async false
set_option linter.all false
set_option maxRecDepth 100000
set_option maxHeartbeats 4000000
namespace K20
open PySem L2 RF
seal L2.PE L2.PA L2.PS L2.PSs L2.PT L2.PG L2.PI L2.PK L2.PO L2.PEx L2.PSx L2.PSxs L2.PH L2.PW L2.PGs L2.OpR L2.CallR L2.SlR L2.IxR
section
variable {P : Program} {w : World} {K : PySem.W.Frag} {mg : Str → Option Value} {base : Heap} {cR cT cI cG : Addr}
noncomputable def bfit (H : Hp) (kept : List Int) : V → V
  | .ref a => match H a with
    | some (.tup [_, .int lo, .int hi]) => .bl (decide (Fits kept lo) && decide (Fits kept hi))
    | _ => .non
  | _ => .non
noncomputable def bfitX (kept : List Int) (x : Str × Int × Int) : Bool := decide (Fits kept x.2.1) && decide (Fits kept x.2.2)
theorem bfit_at {H : Hp} {kept : List Int} {a : Addr} {x : Str × Int × Int} (h : H a = some (.tup [.str x.1, .int x.2.1, .int x.2.2])) : bfit H kept (.ref a) = .bl (bfitX kept x) := by
  simp only [bfit, h]; rfl
theorem told_in {H : Hp} {as : List Addr} {xs : List (Str × Int × Int)} (h : ToldAt H as xs) : ∀ v ∈ as.map V.ref, ∃ a x, v = .ref a ∧ H a = some (.tup [.str x.1, .int x.2.1, .int x.2.2]) ∧ x ∈ xs := by
  induction h with
  | nil => intro v hv; cases hv
  | cons h _ ih =>
    intro v hv
    rcases List.mem_cons.mp hv with rfl | hv
    · exact ⟨_, _, rfl, h, List.mem_cons_self⟩
    · obtain ⟨a, x, e, e2, m⟩ := ih v hv
      exact ⟨a, x, e, e2, List.mem_cons_of_mem _ m⟩
theorem told_bfit {H : Hp} {kept : List Int} {as : List Addr} {xs : List (Str × Int × Int)} (h : ToldAt H as xs) : (as.map V.ref).map (bfit H kept) = (xs.map (bfitX kept)).map V.bl := by
  induction h with
  | nil => rfl
  | cons h _ ih =>
    simp only [List.map_cons] at ih ⊢
    rw [ih, bfit_at h]
theorem all_fit {kept : List Int} {rs : List PR} : ((tells noneK rs).map (bfitX kept)).all id = true ↔ EndsFit kept rs := by
  rw [List.all_map, List.all_eq_true]
  unfold EndsFit bfitX
  simp [Bool.and_eq_true]
theorem tells_len : ∀ (k : Knw) (rs : List PR), (tells k rs).length = rs.length
  | _, [] => rfl
  | k, r :: rs => congrArg (· + 1) (tells_len _ rs)
theorem ToldAt.len {H : Hp} {as : List Addr} {xs : List (Str × Int × Int)} (h : ToldAt H as xs) : as.length = xs.length := by
  induction h with
  | nil => rfl
  | cons _ _ ih => exact congrArg (· + 1) ih
inductive isp_looked (a b : V) (H : Hp) (Q : VK) (E : XK) : Prop
  | mk (kept spare : List Int) (l : Addr) (as : List Addr) (rs : List PR) (h0 : Bas H a kept spare) (h1 : b = .ref l) (h2 : H l = some (.lst (as.map V.ref))) (h3 : RowsAt H as rs) (h4 : rs.length ≤ 60) (h5 : AllOk noneK rs) (h6 : ∀ i, (rs.take i).foldl nextB 130 ≤ 500000) (h7 : (rs.map PR.name).Nodup) (h8 : nin rs ≤ 6)
      (q : ∀ t fl w c n H', Same H H' → H' t = some (.tup [.str w, .ref fl, .int n]) → H' fl = some (.lst (c.map V.int)) → H fl = none → c.length ≤ 6 → Look kept rs w c n → Q (.ref t) H') : isp_looked a b H Q E
noncomputable def sp_looked : Sp := Sp2 isp_looked
noncomputable abbrev s_looked : Stmt := top 23
theorem sc_looked : FnScope ["base", "program", "inputs", "row"] ["base", "program"] (defScope s_looked) := ⟨rfl, rfl, rfl, by decide +kernel, rfl, by decide +kernel, by decide +kernel⟩
theorem b_looked : BindsAll "looked" s_looked ["base", "program"] := binds2 fun _ _ _ _ _ _ _ _ => rfl
theorem ok_looked (D : Def K mg "looked" s_looked) (T : Txt K mg cR cT cI cG) (F_bounds : FnS P w K mg base "bounds" ["program"] 3 sp_bounds) (F_fits : FnS P w K mg base "fits" ["base", "number"] 4 sp_fits) (F_inputs_at_ends : FnS P w K mg base "inputs_at_ends" ["program"] 2 sp_iae) (F_row_too_great : FnS P w K mg base "row_too_great" ["base", "program", "inputs"] 7 (sp_rtg .non)) : FnS P w K mg base "looked" ["base", "program"] 8 sp_looked := by
  refine D.ok sc_looked b_looked sp2_len fun f cdv A outer s H vs Q E hr h => ?_
  obtain ⟨_, _, rfl, kept, spare, l, as, rs, B, rfl, el, R, r60, ok, hB, nd, n6, q⟩ := h
  obtain ⟨⟨tb, rfl, hb⟩, gb⟩ := id B
  refine ⟨_, (pss_cons (ps_if (pt_val (cBi (call_all rfl) (by rfl) T.all PyProof.Rows.Boot.«all» (ac (pe_comp (lv := 3) (caps := [0]) (N' := ["name", "low", "high", "base"]) rfl (CompOk.caps (sc := defScope s_looked) rfl (by decide +kernel) (by decide +kernel) (by decide +kernel) rfl rfl (compcap1 rfl rfl rfl)) (keep_three (by decide) (by decide) (by decide)) (pi_list (cFn F_bounds hr passes0 (ac (pv 1) pa_nil))) (fun _ _ _ _ => pg_tupK (n := 3) K rfl (pgs_cons (pg_name (i := 0) (show (["name", "low", "high", "base"] : List Str).Nodup by decide +kernel) rfl (Or.inl rfl)) (pgs_cons (pg_name (i := 1) (show (["name", "low", "high", "base"] : List Str).Nodup by decide +kernel) rfl (Or.inl rfl)) (pgs_cons (pg_name (i := 2) (show (["name", "low", "high", "base"] : List Str).Nodup by decide +kernel) rfl (Or.inl rfl)) pgs_nil)))) (fun _ _ _ _ => (pe_and (cFn F_fits hr passes0 (ac (pv 3) (ac (pv 1) pa_nil))) (pe_one (cFn F_fits hr passes0 (ac (pv 3) (ac (pv 2) pa_nil))))))) pa_nil)))
        (pss_one (ps_ret (pe_tup (ac pe_str (ac (pe_lst pa_nil) (ac pe_int pa_nil))))))
        pss_nil)
      (pss_cons (ps_for own_pass rfl (pi_list (cFn F_inputs_at_ends hr passes0 (ac (pv 1) pa_nil))) (pg_name (i := 2) sc_looked.nd rfl (Or.inl rfl))
        (pss_cons (ps_set (i := 3) sc_looked.nd rfl (Or.inl rfl) (cFn F_row_too_great hr passes0 (ac (pv 0) (ac (pv 1) (ac (pv 2) pa_nil)))))
        (pss_one (ps_if (pt_cmpR op_notN (pv 3) pe_non (nomark _))
          (pss_one (ps_ret (pe_tup (ac pe_str (ac (pv 2) (ac (pv 3) pa_nil))))))
          pss_nil))))
      (pss_one (ps_ret (pe_tup (ac pe_str (ac (pe_lst pa_nil) (ac pe_int pa_nil)))))))), ?_⟩
  try (set_option simprocs false in dsimp only [cxOf])
  have s300 : (300 : Nat) ≤ sizeLine := by decide
  refine ⟨_, rfl, _, rfl, l, as, rs, rfl, el, R, r60, ok, hB, fun lb ts H1 S1 fb eb TA => ?_⟩
  have tl : ts.length ≤ 60 := by rw [K20.ToldAt.len TA, tells_len]; exact r60
  refine ⟨lb, rfl, ⟨_, SqL.of eb⟩, comp_L (K := K) (xs := ts.map V.ref) (SqL.of eb) (by rw [List.length_map]; omega) (bfit H1 kept) ?_ ?_⟩
  · intro x hx H2 Q' S2 q'
    obtain ⟨a, y, rfl, ea, _⟩ := told_in TA x hx
    rw [bfit_at ea] at q'
    have B2 := B.up (S1.trans S2)
    refine ⟨a, _, rfl, SqT.of (S2 _ _ ea), rfl, _, _, rfl, _, _, rfl, _, _, rfl, rfl, ?_⟩
    refine ⟨_, rfl, _, rfl, _, _, rfl, kept, spare, y.2.1, B2, rfl, _, rfl, ?_⟩
    by_cases h1 : Fits kept y.2.1
    · refine iteTe (decide_eq_true h1) ⟨_, rfl, _, rfl, _, _, rfl, kept, spare, y.2.2, B2, rfl, ?_⟩
      have := q' H2 (Same.refl _)
      unfold bfitX at this
      rw [decide_eq_true h1] at this
      exact this
    · refine iteFe (decide_eq_false h1) ?_
      have := q' H2 (Same.refl _)
      unfold bfitX at this
      rw [decide_eq_false h1] at this
      exact this
  intro D2 H2 hD2 S2 e2
  rw [told_bfit TA] at e2
  have S12 := S1.trans S2
  refine ⟨D2, _, rfl, SqL.of e2, _, rfl, iteE (fun h => ?_) (fun h => ?_)⟩
  · refine ⟨by decide, fun fl ff => ⟨(by show 3 ≤ sizeLine; decide), fun t ft => ?_⟩⟩
    have N1 := Same.new (o := .lst []) ff
    exact q t fl "fits" [] 0 _ ((S12.trans N1).trans (Same.new ft)) upd_same ((Same.new ft) _ _ upd_same) (S12.free ff) (by decide) (.fits (all_fit.mp h))
  have hne : ¬ EndsFit kept rs := fun z => by rw [all_fit.mpr z] at h; cases h
  refine ⟨_, rfl, _, rfl, l, as, rs, rfl, S12 _ _ el, R.up S12, r60, ok, n6, fun lt cs H3 S3 et CA nw => ?_⟩
  have S13 := S12.trans S3
  refine ⟨lt, rfl, ⟨_, SqL.of et⟩, for_list (K := K) (xs := cs.map V.ref) (fun t σ H' => ∃ (y2 y3 : Option V), σ = [some (.ref tb), some (.ref l), y2, y3] ∧ Same H3 H' ∧ ∀ t' < t, ∀ c', (corners (insOf rs))[t']? = some c' → ∀ n ∈ walkN noneF c' rs, Fits kept n)
    ⟨_, _, rfl, Same.refl _, fun _ z => absurd z (Nat.not_lt_zero _)⟩ (fun i σ H' _ ⟨_, _, _, S, _⟩ => SqL.of (S _ _ et)) ?_ ?_⟩
  rotate_left
  · rintro σ H' ⟨y2, y3, rfl, S, fit⟩
    have fit : ∀ t' < (cs.map V.ref).length, ∀ c', (corners (insOf rs))[t']? = some c' → ∀ n ∈ walkN noneF c' rs, Fits kept n := fit
    refine ⟨by decide, fun fl ff => ⟨(by show 3 ≤ sizeLine; decide), fun t ft => ?_⟩⟩
    have N1 := Same.new (o := .lst []) ff
    refine q t fl "open" [] 0 _ (((S13.trans S).trans N1).trans (Same.new ft)) upd_same ((Same.new ft) _ _ upd_same) ((S13.trans S).free ff) (by decide) (.opn hne fun c hc => ?_)
    obtain ⟨t', ht'⟩ := List.getElem?_of_mem hc
    exact fit t' (by rw [List.length_map, CA.1]; exact (List.getElem?_eq_some_iff.mp ht').1) c ht'
  rintro i x σ H' hx ⟨y2, y3, rfl, S, fit⟩
  obtain ⟨c, hc, rfl⟩ := ints_ref hx
  obtain ⟨xs, hxx, ec⟩ := CA.at hc
  have xl : xs.length ≤ 6 := by rw [(corners_at _ _ _ hxx).1, ins_len]; exact n6
  have S3' := S13.trans S
  refine ⟨_, rfl, _, rfl, _, rfl, _, _, _, rfl, kept, spare, l, c, as, rs, xs, B.up S3', rfl, S3' _ _ el, R.up S3', r60, ok, nd, rfl, S _ _ ec, by omega, corner_good ok hxx, fun j fb H4 S4 => ?_, fun fa H4 S4 => ?_⟩
  · refine ⟨_, rfl, rfl, _, rfl, iteTe (by rw [decide_eq_false (fun z => nomatch z)]; rfl) ?_⟩
    refine ⟨_, rfl, _, rfl, (by show 3 ≤ sizeLine; decide), fun t ft => ?_⟩
    exact q t c "not" xs _ _ ((S3'.trans S4).trans (Same.new ft)) upd_same ((S4.trans (Same.new ft)) _ _ (S _ _ ec)) (S12.free (nw c (List.mem_of_getElem? hc))) xl (.not hne i xs j hxx fb fit)
  · refine ⟨_, rfl, rfl, _, rfl, iteFe (by rw [decide_eq_true rfl]; rfl) ?_⟩
    refine ⟨_, _, rfl, S.trans S4, fun t' ht' c' hc' => ?_⟩
    rcases Nat.lt_or_ge t' i with h1 | h1
    · exact fit t' h1 c' hc'
    · have : t' = i := by omega
      subst this
      cases hxx.symm.trans hc'
      exact fa
end
end K20
set_option Elab.async false
set_option linter.all false
namespace K20
open PySem L2 RF
inductive Tidy : List PR → List Str → Prop
  | nil : Tidy [] []
  | inp {rs : List PR} {sp : List Str} (h : Tidy rs sp) (nm : Str) (lo hi : Int) (hn : nm ∉ sp) : Tidy (rs ++ [.inp nm lo hi]) (sp ++ [nm])
  | num {rs : List PR} {sp : List Str} (h : Tidy rs sp) (nm : Str) (v : Int) (hn : nm ∉ sp) : Tidy (rs ++ [.num nm v]) (sp ++ [nm])
  | div {rs : List PR} {sp : List Str} (h : Tidy rs sp) (nm l : Str) (d : Int) (hl : l ∈ sp) (sp' : List Str) (hs : ∀ s ∈ sp', s ∈ sp ∧ s ≠ l) (hn : nm ∉ sp') : Tidy (rs ++ [.div nm l d]) (sp' ++ [nm])
  | two {rs : List PR} {sp : List Str} (h : Tidy rs sp) (deed nm l r : Str) (hl : l ∈ sp) (hr : r ∈ sp) (hne : l ≠ r) (sp' : List Str) (hs : ∀ s ∈ sp', s ∈ sp ∧ s ≠ l ∧ s ≠ r) (hn : nm ∉ sp') : Tidy (rs ++ [.two deed nm l r]) (sp' ++ [nm])
theorem leftOf_app {vs zs : List Int} {r : PR} (h : nin [r] ≤ vs.length) : leftOf (vs ++ zs) r = leftOf vs r ++ zs := by
  unfold leftOf
  by_cases hi : isIn r = true
  · rw [if_pos hi, if_pos hi]
    cases vs with
    | nil => rw [nin_cons, if_pos hi] at h; exact absurd h (by show ¬ 1 ≤ 0; decide)
    | cons v vs => rfl
  · rw [if_neg hi, if_neg hi]
theorem numOf_app {f : Str → Option Int} {vs zs : List Int} {r : PR} (h : nin [r] ≤ vs.length) : numOf f (vs ++ zs) r = numOf f vs r := by
  cases r with
  | inp nm lo hi =>
    cases vs with
    | nil => exact absurd h (by show ¬ 1 ≤ 0; decide)
    | cons v vs => rfl
  | _ => rfl
theorem nin_app (a b : List PR) : nin (a ++ b) = nin a + nin b := by
  unfold nin; rw [List.filter_append, List.length_append]
theorem leftOf_len {vs : List Int} {r : PR} : (leftOf vs r).length = vs.length - nin [r] := by
  unfold leftOf
  rw [nin_cons]
  by_cases hi : isIn r = true
  · rw [if_pos hi, if_pos hi, List.length_tail]; rfl
  · rw [if_neg hi, if_neg hi]; rfl
theorem walk_app : ∀ (rs : List PR) (f : Str → Option Int) (vs zs : List Int), nin rs ≤ vs.length → walkF f (vs ++ zs) rs = walkF f vs rs ∧ walkN f (vs ++ zs) rs = walkN f vs rs
  | [], _, _, _, _ => ⟨rfl, rfl⟩
  | r :: rs, f, vs, zs, h => by
    have e : nin (r :: rs) = nin [r] + nin rs := nin_app [r] rs
    rw [e] at h
    have h1 : nin [r] ≤ vs.length := by omega
    have ih := walk_app rs (putF f r.name (numOf f vs r)) (leftOf vs r) zs (by rw [leftOf_len]; omega)
    constructor
    · show walkF (putF f r.name (numOf f (vs ++ zs) r)) (leftOf (vs ++ zs) r) rs = walkF (putF f r.name (numOf f vs r)) (leftOf vs r) rs
      rw [numOf_app h1, leftOf_app h1]; exact ih.1
    · show numOf f (vs ++ zs) r :: walkN (putF f r.name (numOf f (vs ++ zs) r)) (leftOf (vs ++ zs) r) rs = numOf f vs r :: walkN (putF f r.name (numOf f vs r)) (leftOf vs r) rs
      rw [numOf_app h1, leftOf_app h1, ih.2]
theorem ins_snoc (rs : List PR) (r : PR) : insOf (rs ++ [r]) = insOf rs ++ (if isIn r = true then [endP r] else []) := by
  unfold insOf
  rw [List.filter_append, List.map_append]
  by_cases hi : isIn r = true
  · rw [if_pos hi, List.filter_cons, if_pos hi]; rfl
  · rw [if_neg hi, List.filter_cons, if_neg hi]; rfl
theorem ins_app (a b : List PR) : insOf (a ++ b) = insOf a ++ insOf b := by
  unfold insOf; rw [List.filter_append, List.map_append]
theorem corner_len {rs : List PR} {c : List Int} (h : c ∈ corners (insOf rs)) : c.length = nin rs := by
  obtain ⟨t, ht⟩ := List.getElem?_of_mem h
  rw [(corners_at _ _ _ ht).1, ins_len]
theorem two2_mem {acc : List (List Int)} {p : Int × Int} {c : List Int} (h : c ∈ acc) (b : Nat) : c ++ [pk p b] ∈ two2 acc p := by
  unfold two2
  refine List.mem_flatMap.mpr ⟨c, h, ?_⟩
  unfold pk
  split
  · exact List.mem_cons_of_mem _ List.mem_cons_self
  · exact List.mem_cons_self
theorem corner_ext {ps : List (Int × Int)} {c : List Int} (h : c ∈ corners ps) (qs : List (Int × Int)) : ∃ zs, c ++ zs ∈ corners (ps ++ qs) := by
  induction qs using snocInd with
  | h0 => exact ⟨[], by rw [List.append_nil, List.append_nil]; exact h⟩
  | h1 qs q ih =>
    obtain ⟨zs, hz⟩ := ih
    refine ⟨zs ++ [pk q 0], ?_⟩
    rw [← List.append_assoc, ← List.append_assoc, corners_snoc]
    exact two2_mem hz 0
theorem end_four {deed : Str} {p q : Int × Int} (b : Nat) : ∃ i j : Nat, pk (end4 (doneI deed p.1 q.1) (doneI deed p.1 q.2) (doneI deed p.2 q.1) (doneI deed p.2 q.2)) b = doneI deed (pk p i) (pk q j) := by
  have is := end4_is (doneI deed p.1 q.1) (doneI deed p.1 q.2) (doneI deed p.2 q.1) (doneI deed p.2 q.2)
  have key : ∀ v ∈ [doneI deed p.1 q.1, doneI deed p.1 q.2, doneI deed p.2 q.1, doneI deed p.2 q.2], ∃ i j : Nat, v = doneI deed (pk p i) (pk q j) := by
    intro v hv
    simp only [List.mem_cons, List.not_mem_nil, or_false] at hv
    rcases hv with rfl | rfl | rfl | rfl
    · exact ⟨0, 0, rfl⟩
    · exact ⟨0, 1, rfl⟩
    · exact ⟨1, 0, rfl⟩
    · exact ⟨1, 1, rfl⟩
  by_cases hb : b % 2 = 1
  · have e : pk (end4 (doneI deed p.1 q.1) (doneI deed p.1 q.2) (doneI deed p.2 q.1) (doneI deed p.2 q.2)) b = (end4 (doneI deed p.1 q.1) (doneI deed p.1 q.2) (doneI deed p.2 q.1) (doneI deed p.2 q.2)).2 := if_pos hb
    rw [e]; exact key _ is.2.2.1
  · have e : pk (end4 (doneI deed p.1 q.1) (doneI deed p.1 q.2) (doneI deed p.2 q.1) (doneI deed p.2 q.2)) b = (end4 (doneI deed p.1 q.1) (doneI deed p.1 q.2) (doneI deed p.2 q.1) (doneI deed p.2 q.2)).1 := if_neg hb
    rw [e]; exact key _ is.1
theorem tidy_reach {rs : List PR} {sp : List Str} (h : Tidy rs sp) : ∀ e : Str → Nat, ∃ ws ∈ corners (insOf rs), ∀ s ∈ sp, ∃ p, knows noneK rs s = some p ∧ walkF noneF ws rs s = some (pk p (e s)) := by
  have put : ∀ {rs : List PR} {r : PR} {sp' : List Str} {ws ws' : List Int} {e e' : Str → Nat} {p : Int × Int}, walkF noneF ws' rs = walkF noneF ws rs → r.name ∉ sp' → (∀ s ∈ sp', e' s = e s) → (∀ s ∈ sp', ∃ p, knows noneK rs s = some p ∧ walkF noneF ws rs s = some (pk p (e' s))) → endsOf (knows noneK rs) r = p → numOf (walkF noneF ws rs) (walkL ws' rs) r = pk p (e r.name) → ∀ s ∈ sp' ++ [r.name], ∃ p, knows noneK (rs ++ [r]) s = some p ∧ walkF noneF ws' (rs ++ [r]) s = some (pk p (e s)) := by
    intro rs r sp' ws ws' e e' p hw hn he ih hp hv s hs
    rw [knows_snoc, walkF_snoc, hw, hv, hp]
    unfold Knw.put putF
    rcases List.mem_append.mp hs with hs | hs
    · have ne : s ≠ r.name := fun z => hn (z ▸ hs)
      rw [if_neg ne, if_neg ne, ← he s hs]
      exact ih s hs
    · rw [List.mem_singleton.mp hs, if_pos rfl, if_pos rfl]
      exact ⟨p, rfl, rfl⟩
  induction h with
  | nil => exact fun e => ⟨[], List.mem_cons_self, fun s hs => nomatch hs⟩
  | @inp rs sp h nm lo hi hn ih =>
    intro e
    obtain ⟨ws, hw, hs⟩ := ih e
    have wl := corner_len hw
    have wa := walk_app rs noneF ws [pk (lo, hi) (e nm)] (by omega)
    refine ⟨ws ++ [pk (lo, hi) (e nm)], ?_, put (r := .inp nm lo hi) (ws := ws) (e' := e) wa.1 hn (fun _ _ => rfl) hs rfl ?_⟩
    · rw [ins_snoc]
      show _ ∈ corners (insOf rs ++ [(lo, hi)])
      rw [corners_snoc]
      exact two2_mem hw _
    · rw [walkL_eq, ← wl, List.drop_left]; rfl
  | @num rs sp h nm v hn ih =>
    intro e
    obtain ⟨ws, hw, hs⟩ := ih e
    refine ⟨ws, by rw [ins_snoc]; exact (List.append_nil (insOf rs)).symm ▸ hw, put (r := .num nm v) (ws := ws) (e' := e) rfl hn (fun _ _ => rfl) hs rfl ?_⟩
    show v = pk (v, v) _
    unfold pk; split <;> rfl
  | @div rs sp h nm l d hl sp' hs' hn ih =>
    intro e
    obtain ⟨ws, hw, hs⟩ := ih fun s => if s = l then e nm else e s
    obtain ⟨p, hp, hv⟩ := hs l hl
    rw [if_pos rfl] at hv
    refine ⟨ws, by rw [ins_snoc]; exact (List.append_nil (insOf rs)).symm ▸ hw, put (r := .div nm l d) (ws := ws) (e' := fun s => if s = l then e nm else e s) rfl hn (fun s h2 => if_neg (hs' s h2).2) (fun s h2 => hs s (hs' s h2).1) (endsOf_div hp) ?_⟩
    show (walkF noneF ws rs l).getD 0 / d = pk (p.1 / d, p.2 / d) (e nm)
    rw [hv]
    show pk p (e nm) / d = _
    unfold pk; split <;> rfl
  | @two rs sp h deed nm l r hl hr hne sp' hs' hn ih =>
    intro e
    have : ∃ i j : Nat, ∀ p q, knows noneK rs l = some p → knows noneK rs r = some q → pk (endsOf (knows noneK rs) (.two deed nm l r)) (e nm) = doneI deed (pk p i) (pk q j) := by
      obtain ⟨_, _, h0⟩ := ih fun _ => 0
      obtain ⟨p, hp, _⟩ := h0 l hl
      obtain ⟨q, hq, _⟩ := h0 r hr
      obtain ⟨i, j, hij⟩ := end_four (deed := deed) (p := p) (q := q) (e nm)
      refine ⟨i, j, fun p' q' hp' hq' => ?_⟩
      cases hp.symm.trans hp'
      cases hq.symm.trans hq'
      rw [endsOf_two hp hq]
      exact hij
    obtain ⟨i, j, hij⟩ := this
    obtain ⟨ws, hw, hs⟩ := ih fun s => if s = l then i else if s = r then j else e s
    obtain ⟨p, hp, hv⟩ := hs l hl
    obtain ⟨q, hq, hv'⟩ := hs r hr
    rw [if_pos rfl] at hv
    rw [if_neg (Ne.symm hne), if_pos rfl] at hv'
    refine ⟨ws, by rw [ins_snoc]; exact (List.append_nil (insOf rs)).symm ▸ hw, put (r := .two deed nm l r) (ws := ws) (e' := fun s => if s = l then i else if s = r then j else e s) rfl hn (fun s h2 => by
      show (if s = l then i else if s = r then j else e s) = e s
      rw [if_neg (hs' s h2).2.1, if_neg (hs' s h2).2.2]) (fun s h2 => hs s (hs' s h2).1) rfl ?_⟩
    show doneI deed ((walkF noneF ws rs l).getD 0) ((walkF noneF ws rs r).getD 0) = _
    rw [hv, hv']
    exact (hij p q hp hq).symm
theorem tidy_at {rs : List PR} {sp : List Str} (h : Tidy rs sp) : ∀ (i : Nat) r, rs[i]? = some r → ∃ sp', Tidy (rs.take (i + 1)) sp' ∧ r.name ∈ sp' := by
  have step : ∀ {rs : List PR} {r : PR} {sp' : List Str}, Tidy (rs ++ [r]) sp' → r.name ∈ sp' → (∀ (i : Nat) r, rs[i]? = some r → ∃ sp', Tidy (rs.take (i + 1)) sp' ∧ r.name ∈ sp') → ∀ (i : Nat) r', (rs ++ [r])[i]? = some r' → ∃ sp', Tidy ((rs ++ [r]).take (i + 1)) sp' ∧ r'.name ∈ sp' := by
    intro rs r sp' ht hm ih i r' hi
    rcases Nat.lt_or_ge i rs.length with hl | hl
    · rw [List.getElem?_append_left hl] at hi
      rw [List.take_append_of_le_length (by omega)]
      exact ih i r' hi
    · rw [List.getElem?_append_right hl] at hi
      have := (List.getElem?_eq_some_iff.mp hi).1
      have z : i - rs.length = 0 := by rw [List.length_singleton] at this; omega
      rw [z] at hi
      cases hi
      rw [List.take_of_length_le (by rw [List.length_append, List.length_singleton]; omega)]
      exact ⟨sp', ht, hm⟩
  induction h with
  | nil => intro i r h; cases h
  | inp h nm lo hi hn ih => exact step (.inp h nm lo hi hn) (List.mem_append_right _ List.mem_cons_self) ih
  | num h nm v hn ih => exact step (.num h nm v hn) (List.mem_append_right _ List.mem_cons_self) ih
  | div h nm l d hl sp' hs hn ih => exact step (.div h nm l d hl sp' hs hn) (List.mem_append_right _ List.mem_cons_self) ih
  | two h deed nm l r hl hr hne sp' hs hn ih => exact step (.two h deed nm l r hl hr hne sp' hs hn) (List.mem_append_right _ List.mem_cons_self) ih
theorem tells_ix {x : Str × Int × Int} : ∀ {rs : List PR} {k : Knw}, x ∈ tells k rs → ∃ (i : Nat) (r : PR), rs[i]? = some r ∧ x = (r.name, endsOf (knows k (rs.take i)) r)
  | [], _, h => nomatch h
  | r :: rs, k, h => by
    rcases List.mem_cons.mp h with rfl | h
    · exact ⟨0, r, rfl, rfl⟩
    · obtain ⟨i, r', e, e2⟩ := tells_ix h
      exact ⟨i + 1, r', e, e2⟩
theorem tidy_exact {rs : List PR} {sp : List Str} (h : Tidy rs sp) {x : Str × Int × Int} (hx : x ∈ tells noneK rs) (b : Nat) : ∃ c ∈ corners (insOf rs), pk x.2 b ∈ walkN noneF c rs := by
  obtain ⟨i, r, hi, rfl⟩ := tells_ix hx
  obtain ⟨sp', ht, hm⟩ := tidy_at h i r hi
  obtain ⟨ws, hw, hs⟩ := tidy_reach ht fun _ => b
  obtain ⟨p, hp, hv⟩ := hs r.name hm
  have tk : rs.take (i + 1) = rs.take i ++ [r] := by rw [List.take_add_one, hi]; rfl
  have wl := corner_len hw
  obtain ⟨zs, hz⟩ := corner_ext hw (insOf (rs.drop (i + 1)))
  rw [← ins_app, List.take_append_drop] at hz
  refine ⟨ws ++ zs, hz, ?_⟩
  have wa := (walk_app (rs.take (i + 1)) noneF ws zs (by omega)).2
  have tt := walkN_take noneF (ws ++ zs) rs (i + 1)
  rw [wa, tk, walkN_snoc] at tt
  rw [tk, knows_snoc] at hp
  unfold Knw.put at hp
  rw [if_pos rfl] at hp
  cases hp
  rw [tk, walkF_snoc] at hv
  unfold putF at hv
  rw [if_pos rfl] at hv
  rw [← Option.some.inj hv]
  refine List.mem_of_mem_take (i := i + 1) ?_
  rw [← tt]
  exact List.mem_append_right _ List.mem_cons_self
theorem tidy_fits {kept : List Int} {rs : List PR} {sp : List Str} (h : Tidy rs sp) (hc : ∀ c ∈ corners (insOf rs), ∀ n ∈ walkN noneF c rs, Fits kept n) : EndsFit kept rs := fun x hx => by
  obtain ⟨c, h1, h2⟩ := tidy_exact h hx 0
  obtain ⟨c', h1', h2'⟩ := tidy_exact h hx 1
  exact ⟨hc c h1 _ h2, hc c' h1' _ h2'⟩
noncomputable def wide (acc : List (List Int)) (p : Int × Int) : List (List Int) := acc.flatMap fun c => (List.range (p.2 + 1 - p.1).toNat).map fun (k : Nat) => c ++ [p.1 + (k : Int)]
noncomputable def allI (ps : List (Int × Int)) : List (List Int) := ps.foldl wide [[]]
theorem allI_snoc (ps : List (Int × Int)) (p : Int × Int) : allI (ps ++ [p]) = wide (allI ps) p := by
  unfold allI; rw [List.foldl_append]; rfl
theorem wide_mem {acc : List (List Int)} {p : Int × Int} {x : List Int} : x ∈ wide acc p ↔ ∃ c ∈ acc, ∃ v, p.1 ≤ v ∧ v ≤ p.2 ∧ x = c ++ [v] := by
  unfold wide
  rw [List.mem_flatMap]
  constructor
  · rintro ⟨c, hc, hx⟩
    obtain ⟨k, hk, rfl⟩ := List.mem_map.mp hx
    have hk := List.mem_range.mp hk
    exact ⟨c, hc, _, by omega, by omega, rfl⟩
  · rintro ⟨c, hc, v, h1, h2, rfl⟩
    refine ⟨c, hc, List.mem_map.mpr ⟨(v - p.1).toNat, List.mem_range.mpr (by omega), ?_⟩⟩
    rw [show p.1 + ((v - p.1).toNat : Int) = v by omega]
theorem allI_in (ps : List (Int × Int)) : ∀ x ∈ allI ps, x.length = ps.length ∧ ∀ (j : Nat) p v, ps[j]? = some p → x[j]? = some v → p.1 ≤ v ∧ v ≤ p.2 := by
  induction ps using snocInd with
  | h0 =>
    intro x hx
    rw [List.mem_singleton.mp hx]
    exact ⟨rfl, fun j p v h => nomatch h⟩
  | h1 ps p ih =>
    intro x hx
    rw [allI_snoc] at hx
    obtain ⟨c, hc, v, h1, h2, rfl⟩ := wide_mem.mp hx
    obtain ⟨l, ha⟩ := ih c hc
    refine ⟨by rw [List.length_append, List.length_append, l]; rfl, fun j p' v' e1 e2 => ?_⟩
    rcases Nat.lt_or_ge j ps.length with hj | hj
    · rw [List.getElem?_append_left hj] at e1
      rw [List.getElem?_append_left (by omega)] at e2
      exact ha j p' v' e1 e2
    · rw [List.getElem?_append_right hj] at e1
      rw [List.getElem?_append_right (by omega)] at e2
      have := (List.getElem?_eq_some_iff.mp e1).1
      have z : j - ps.length = 0 := by rw [List.length_singleton] at this; omega
      rw [l, z] at e2
      rw [z] at e1
      cases e1; cases e2
      exact ⟨h1, h2⟩
theorem allI_good {rs : List PR} {ws : List Int} (h : ws ∈ allI (insOf rs)) : GoodIn rs ws := by
  obtain ⟨l, ha⟩ := allI_in _ ws h
  rw [ins_len] at l
  refine ⟨l, fun j nm lo hi v e1 e2 => ha j (lo, hi) v ?_ e2⟩
  unfold insOf
  rw [List.getElem?_map, e1]; rfl
theorem corner_all {ps : List (Int × Int)} (ho : ∀ p ∈ ps, p.1 ≤ p.2) : ∀ c ∈ corners ps, c ∈ allI ps := by
  induction ps using snocInd with
  | h0 => exact fun c h => h
  | h1 ps p ih =>
    intro c hc
    rw [corners_snoc] at hc
    obtain ⟨c', hc', hx⟩ := List.mem_flatMap.mp hc
    rw [allI_snoc]
    have hp := ho p (List.mem_append_right _ List.mem_cons_self)
    have ih := ih (fun q hq => ho q (List.mem_append_left _ hq)) c' hc'
    rcases List.mem_cons.mp hx with rfl | hx
    · exact wide_mem.mpr ⟨c', ih, p.1, Int.le_refl _, hp, rfl⟩
    · rw [List.mem_singleton.mp hx]
      exact wide_mem.mpr ⟨c', ih, p.2, hp, Int.le_refl _, rfl⟩
theorem ins_ord {rs : List PR} (ok : AllOk noneK rs) : ∀ p ∈ insOf rs, p.1 ≤ p.2 := fun p hp => by
  obtain ⟨r, hr, rfl⟩ := List.mem_map.mp hp
  obtain ⟨j, hj⟩ := List.getElem?_of_mem hr
  obtain ⟨nm, lo, hi, rfl, h⟩ := in_ord ok hj
  exact h
end K20
set_option Elab.async false
set_option linter.all false
set_option maxRecDepth 100000
set_option maxHeartbeats 4000000
namespace K20
open PySem L2 RF
seal L2.PE L2.PA L2.PS L2.PSs L2.PT L2.PG L2.PI L2.PK L2.PO L2.PEx L2.PSx L2.PSxs L2.PH L2.PW L2.PGs L2.OpR L2.CallR L2.SlR L2.IxR
section
variable {P : Program} {w : World} {K : PySem.W.Frag} {mg : Str → Option Value} {base : Heap} {cR cT cI cG : Addr}
inductive isp_small (a b : V) (H : Hp) (Q : VK) (E : XK) : Prop
  | mk (kept spare : List Int) (nb : Int) (h0 : Bas H a kept spare) (h1 : b = .int nb) (q : ∀ v : Int, -(2 ^ 121) < v → v < 2 ^ 121 → Q (.int v) H) : isp_small a b H Q E
noncomputable def sp_small : Sp := Sp2 isp_small
noncomputable abbrev s__law_small : Stmt := top 36
theorem sc__law_small : FnScope ["_law_base", "_law_number"] ["_law_base", "_law_number"] (defScope s__law_small) := ⟨rfl, rfl, rfl, by decide +kernel, rfl, by decide +kernel, by decide +kernel⟩
theorem b__law_small : BindsAll "_law_small" s__law_small ["_law_base", "_law_number"] := binds2 fun _ _ _ _ _ _ _ _ => rfl
theorem ok_small (D : Def K mg "_law_small" s__law_small) (F__law_span : FnS P w K mg base "_law_span" ["_law_base"] 1 sp_span) : FnS P w K mg base "_law_small" ["_law_base", "_law_number"] 2 sp_small := by
  refine D.ok sc__law_small b__law_small sp2_len fun f cdv A outer s H vs Q E hr h => ?_
  obtain ⟨_, _, rfl, kept, spare, nb, B, rfl, q⟩ := h
  refine ⟨_, (pss_cons (ps_if (pt_cmpR op_eq (pe_op op_mod (pv 1) pe_int) pe_int (nomark _))
        (pss_one (ps_ret (pe_op op_sub (pe_op op_fdiv (cFn F__law_span hr passes0 (ac (pv 0) pa_nil)) pe_int) (pe_op op_mod (pe_op op_fdiv (pv 1) pe_int) pe_int))))
        pss_nil)
      (pss_cons (ps_if (pt_cmpR op_eq (pe_op op_mod (pv 1) pe_int) pe_int (nomark _))
        (pss_one (ps_ret (pe_op op_sub (pe_op op_sub (pe_op op_mod (pe_op op_fdiv (pv 1) pe_int) pe_int) pe_int) (pe_op op_fdiv (pe_op op_sub (cFn F__law_span hr passes0 (ac (pv 0) pa_nil)) pe_int) pe_int))))
        pss_nil)
      (pss_one (ps_ret (pe_op op_sub (pe_op op_mod (pe_op op_fdiv (pv 1) pe_int) pe_int) pe_int))))), ?_⟩
  try (set_option simprocs false in dsimp only [cxOf])
  have sm := B.2.small
  have sp := B.2.span
  refine ⟨_, rfl, _, _, rfl, rfl, (by show (0 : Int) < 4; decide), rfl, _, rfl, ite2 (fun _ => ?_) (fun _ => ?_)⟩
  · exact ⟨_, rfl, _, rfl, kept, spare, B, _, _, rfl, rfl, ⟨by decide, by decide⟩, _, rfl, _, _, rfl, rfl, ⟨by decide, by decide⟩, _, _, rfl, rfl, (by show (0 : Int) < 6; decide), _, _, rfl, rfl, q _ (by omega) (by omega)⟩
  refine ⟨_, rfl, _, _, rfl, rfl, (by show (0 : Int) < 4; decide), rfl, _, rfl, ite2 (fun _ => ?_) (fun _ => ?_)⟩
  · exact ⟨_, rfl, _, _, rfl, rfl, ⟨by decide, by decide⟩, _, _, rfl, rfl, (by show (0 : Int) < 5; decide), _, _, rfl, rfl, _, rfl, _, rfl, kept, spare, B, _, _, rfl, rfl, _, _, rfl, rfl, ⟨by decide, by decide⟩, _, _, rfl, rfl, q _ (by omega) (by omega)⟩
  · exact ⟨_, rfl, _, _, rfl, rfl, ⟨by decide, by decide⟩, _, _, rfl, rfl, (by show (0 : Int) < 15; decide), _, _, rfl, rfl, q _ (by omega) (by omega)⟩
theorem eraseIdx_mapL {α β : Type} (f : α → β) : ∀ (xs : List α) (i : Nat), (xs.map f).eraseIdx i = (xs.eraseIdx i).map f
  | [], _ => rfl
  | _ :: _, 0 => rfl
  | x :: xs, i + 1 => congrArg (f x :: ·) (eraseIdx_mapL f xs i)
inductive TRow (sp : List Str) : PR → List Str → Prop
  | inp (nm : Str) (lo hi : Int) (h : lo ≤ hi) (h3 : hi - lo ≤ 3) : TRow sp (.inp nm lo hi) sp
  | num (nm : Str) (v : Int) : TRow sp (.num nm v) sp
  | div (nm l : Str) (d : Int) (i : Nat) (hi : sp[i]? = some l) (hd : 0 < d) (hd' : d < 10) : TRow sp (.div nm l d) (sp.eraseIdx i)
  | two (deed nm l r : Str) (i j : Nat) (hd : deed = "add" ∨ deed = "take" ∨ deed = "mul") (hi : sp[i]? = some l) (hj : (sp.eraseIdx i)[j]? = some r) : TRow sp (.two deed nm l r) ((sp.eraseIdx i).eraseIdx j)
noncomputable def SB (la : Addr) (H H' : Hp) : Prop := ∀ a o, a ≠ la → H a = some o → H' a = some o
theorem Same.sb {la : Addr} {H H' : Hp} (S : Same H H') : SB la H H' := fun a o _ e => S a o e
theorem SB.trans {la : Addr} {H H1 H2 : Hp} (h : SB la H H1) (h' : SB la H1 H2) : SB la H H2 := fun a o n e => h' a o n (h a o n e)
theorem SB.upd {la : Addr} {H : Hp} {o : HO} : SB la H (L2.upd H la o) := fun a o' n e => by rw [upd_ne n]; exact e
inductive isp_trow (a b c d e : V) (H : Hp) (Q : VK) (E : XK) : Prop
  | mk (kept spare : List Int) (nb room : Int) (nm : Str) (la : Addr) (sp : List Str) (h0 : Bas H a kept spare) (h1 : b = .int nb) (h3 : c = .str nm) (h4 : d = .ref la) (h5 : H la = some (.lst (sp.map V.str))) (h6 : sp.length ≤ 60) (h7 : e = .int room) (h8 : ∀ n ∈ sp, PyData.strOk n = true)
      (q : ∀ t r sp' H', SB la H H' → H' la = some (.lst (sp'.map V.str)) → H' t = some (.tup r.vals) → r.name = nm → TRow sp r sp' → RowBig r → (isIn r = true → 0 < room) → Q (.ref t) H') : isp_trow a b c d e H Q E
noncomputable def sp_trow : Sp := Sp5 isp_trow
noncomputable abbrev s__law_tidy_row : Stmt := top 37
theorem sc__law_tidy_row : FnScope ["_law_base", "_law_number", "_law_name", "_law_spare", "_law_room", "_law_behind", "_law_low", "_law_left"] ["_law_base", "_law_number", "_law_name", "_law_spare", "_law_room"] (defScope s__law_tidy_row) := ⟨rfl, rfl, rfl, by decide +kernel, rfl, by decide +kernel, by decide +kernel⟩
theorem b__law_tidy_row : BindsAll "_law_tidy_row" s__law_tidy_row ["_law_base", "_law_number", "_law_name", "_law_spare", "_law_room"] := binds5 fun _ _ _ _ _ _ _ _ _ _ _ => rfl
theorem ok_trow (D : Def K mg "_law_tidy_row" s__law_tidy_row) (T : Txt K mg cR cT cI cG) (F__law_small : FnS P w K mg base "_law_small" ["_law_base", "_law_number"] 2 sp_small) : FnS P w K mg base "_law_tidy_row" ["_law_base", "_law_number", "_law_name", "_law_spare", "_law_room"] 3 sp_trow := by
  refine D.ok sc__law_tidy_row b__law_tidy_row sp5_len fun f cdv A outer s H vs Q E hr h => ?_
  obtain ⟨_, _, _, _, _, rfl, kept, spare, nb, room, nm, la, sp, B, rfl, rfl, rfl, el, n60, rfl, nok, q⟩ := h
  obtain ⟨⟨tb, rfl, hb⟩, gb⟩ := id B
  refine ⟨_, (pss_cons (ps_set (i := 5) sc__law_tidy_row.nd rfl (Or.inl rfl) (pe_op op_fdiv (pv 1) pe_int))
      (pss_cut ((fun σ H' => σ = [some (.ref tb), some (.int nb), some (.str nm), some (.ref la), some (.int room), some (.int (nb / 8)), none, none] ∧ Same H H' ∧ sp ≠ [])) (ps_if (PW.pt (pw_or (PW.pt (pw_and (pt_cmpR op_lt (pe_op op_mod (pv 1) pe_int) pe_int (nomark _)) (pw_and1 (pt_cmpR op_gt (pv 4) pe_int (nomark _))))) (pw_or (PW.pt (pw_and (pt_cmpR op_lt (cBi call0len (by rfl) T.len PyProof.Rows.Boot.«len» (ac (pv 3) pa_nil)) pe_int (nomark _)) (pw_and1 (pt_cmpR op_gt (pe_op op_mod (pv 1) pe_int) pe_int (nomark _))))) (pw_or1 (pt_cmpR (op_eqDK K hr.units) (pv 3) (pe_lst pa_nil) (nomark _))))))
        (pss_cons (ps_if (pt_cmpR op_gt (pv 4) pe_int (nomark _))
          (pss_cons (ps_set (i := 6) sc__law_tidy_row.nd rfl (Or.inl rfl) (cFn F__law_small hr passes0 (ac (pv 0) (ac (pv 5) pa_nil))))
          (pss_one (ps_ret (pe_tup (ac pe_str (ac (pv 2) (ac (pv 6) (ac (pe_op op_add (pv 6) (pe_op op_mod (pe_op op_fdiv (pv 5) pe_int) pe_int)) pa_nil))))))))
          pss_nil)
        (pss_one (ps_ret (pe_tup (ac pe_str (ac (pv 2) (ac (cFn F__law_small hr passes0 (ac (pv 0) (ac (pv 5) pa_nil))) pa_nil)))))))
        pss_nil)
      (pss_cons (ps_if (pt_cmpR op_eq (pe_op op_mod (pv 1) pe_int) pe_int (nomark _))
        (pss_one (ps_ret (pe_tup (ac pe_str (ac (pv 2) (ac (cFn F__law_small hr passes0 (ac (pv 0) (ac (pv 5) pa_nil))) pa_nil))))))
        pss_nil)
      (pss_cons (ps_set (i := 7) sc__law_tidy_row.nd rfl (Or.inl rfl) (pe_bm PySem.F.plainAttrs_list PySem.F.slot_list_pop PySem.F.type_list_pop mt_popAt (pv 3) (ac (pe_op op_mod (pv 5) (cBi call0len (by rfl) T.len PyProof.Rows.Boot.«len» (ac (pv 3) pa_nil))) pa_nil)))
      (pss_cons (ps_if (PW.pt (pw_or (pt_cmpR op_eq (pe_op op_mod (pv 1) pe_int) pe_int (nomark _)) (pw_or1 (pt_cmpR (op_eqDK K hr.units) (pv 3) (pe_lst pa_nil) (nomark _)))))
        (pss_one (ps_ret (pe_tup (ac pe_str (ac (pv 2) (ac (pv 7) (ac (pe_op op_add pe_int (pe_op op_mod (pe_op op_fdiv (pv 5) pe_int) pe_int)) pa_nil)))))))
        pss_nil)
      (pss_one (ps_ret (pe_tup (ac (pe_ix ix0L (pe_lst (ac pe_str (ac pe_str (ac pe_str (ac pe_str pa_nil))))) (pe_op op_mod (pv 1) pe_int) (fun _ _ => rfl)) (ac (pv 2) (ac (pv 7) (ac (pe_bm PySem.F.plainAttrs_list PySem.F.slot_list_pop PySem.F.type_list_pop mt_popAt (pv 3) (ac (pe_op op_mod (pe_op op_fdiv (pv 5) pe_int) (cBi call0len (by rfl) T.len PyProof.Rows.Boot.«len» (ac (pv 3) pa_nil))) pa_nil)) pa_nil)))))))))))), ?_⟩
  try (set_option simprocs false in dsimp only [cxOf])
  have inp : ∀ (lo hi : Int) (H1 : Hp) (t : Addr), Same H H1 → decide (0 < room) = true → lo ≤ hi → hi - lo ≤ 3 → -(2 ^ 121) < lo → lo < 2 ^ 121 → H1 t = none → Q (.ref t) (upd H1 t (.tup (PR.inp nm lo hi).vals)) := fun lo hi H1 t S hroom hle h3 l0 l1 ft =>
    q t (.inp nm lo hi) sp _ (Same.sb (S.trans (Same.new ft))) ((S.trans (Same.new ft)) _ _ el) upd_same rfl (.inp nm lo hi hle h3) ⟨big_of (by omega) (by omega), big_of (by omega) (by omega)⟩ fun _ => of_decide_eq_true hroom
  have num : ∀ (v : Int) (H1 : Hp) (t : Addr), Same H H1 → -(2 ^ 121) < v → v < 2 ^ 121 → H1 t = none → Q (.ref t) (upd H1 t (.tup (PR.num nm v).vals)) := fun v H1 t S l0 l1 ft =>
    q t (.num nm v) sp _ (Same.sb (S.trans (Same.new ft))) ((S.trans (Same.new ft)) _ _ el) upd_same rfl (.num nm v) (big_of (by omega) (by omega)) fun z => nomatch z
  refine ⟨_, rfl, _, _, rfl, rfl, ⟨by decide, by decide⟩, ?_⟩
  refine ⟨?_, ?_⟩
  rotate_left
  · exact ⟨_, rfl, _, _, rfl, rfl, (by show (0 : Int) < 8; decide), _, _, rfl, rfl, _, rfl, ite2 (fun _ => ⟨_, rfl, _, _, rfl, rfl, _, rfl, ite2 (fun _ => iteT ⟨_, rfl, _, _, rfl, rfl, _, rfl, ite2 (fun hroom => ⟨_, rfl, _, rfl, _, _, rfl, kept, spare, nb / 8, B, rfl, fun lo l0 l1 => ⟨_, rfl, _, rfl, _, rfl, _, rfl, _, _, rfl, rfl, ⟨by decide, by decide⟩, _, _, rfl, rfl, (by show (0 : Int) < 4; decide), _, _, rfl, rfl, (by show 4 ≤ sizeLine; decide), fun t ft => inp lo _ _ t (Same.refl _) hroom (by omega) (by omega) l0 l1 ft⟩⟩) (fun _ => ⟨_, rfl, _, rfl, _, rfl, _, _, rfl, kept, spare, nb / 8, B, rfl, fun v v0 v1 => ⟨(by show 3 ≤ sizeLine; decide), fun t ft => num v _ t (Same.refl _) v0 v1 ft⟩⟩)⟩) (fun _ => ⟨_, rfl, la, _, rfl, .inl (SqL.of el), _, _, rfl, rfl, _, rfl, ite2 (fun _ => ⟨_, rfl, _, _, rfl, rfl, (by show (0 : Int) < 8; decide), _, _, rfl, rfl, _, rfl, ite2 (fun _ => iteT ⟨_, rfl, _, _, rfl, rfl, _, rfl, ite2 (fun hroom => ⟨_, rfl, _, rfl, _, _, rfl, kept, spare, nb / 8, B, rfl, fun lo l0 l1 => ⟨_, rfl, _, rfl, _, rfl, _, rfl, _, _, rfl, rfl, ⟨by decide, by decide⟩, _, _, rfl, rfl, (by show (0 : Int) < 4; decide), _, _, rfl, rfl, (by show 4 ≤ sizeLine; decide), fun t ft => inp lo _ _ t (Same.refl _) hroom (by omega) (by omega) l0 l1 ft⟩⟩) (fun _ => ⟨_, rfl, _, rfl, _, rfl, _, _, rfl, kept, spare, nb / 8, B, rfl, fun v v0 v1 => ⟨(by show 3 ≤ sizeLine; decide), fun t ft => num v _ t (Same.refl _) v0 v1 ft⟩⟩)⟩) (fun _ => ⟨_, rfl, by decide, fun p fp => ⟨_, _, .lst (SqL.of ((Same.new fp) _ _ el)) (rdS sp), .lst (SqL.of upd_same) .nil, shS sp nok, by decide +kernel, _, rfl, by
        rw [eqvS]
        exact ite2 (fun _ => ⟨_, rfl, _, _, rfl, rfl, _, rfl, ite2 (fun hroom => ⟨_, rfl, _, rfl, _, _, rfl, kept, spare, nb / 8, (B.up (Same.new fp)), rfl, fun lo l0 l1 => ⟨_, rfl, _, rfl, _, rfl, _, rfl, _, _, rfl, rfl, ⟨by decide, by decide⟩, _, _, rfl, rfl, (by show (0 : Int) < 4; decide), _, _, rfl, rfl, (by show 4 ≤ sizeLine; decide), fun t ft => inp lo _ _ t (Same.new fp) hroom (by omega) (by omega) l0 l1 ft⟩⟩) (fun _ => ⟨_, rfl, _, rfl, _, rfl, _, _, rfl, kept, spare, nb / 8, (B.up (Same.new fp)), rfl, fun v v0 v1 => ⟨(by show 3 ≤ sizeLine; decide), fun t ft => num v _ t (Same.new fp) v0 v1 ft⟩⟩)⟩) (fun h => ⟨rfl, Same.new fp, fun z => h (decide_eq_true z)⟩)⟩⟩)⟩) (fun _ => iteF ⟨_, rfl, by decide, fun p fp => ⟨_, _, .lst (SqL.of ((Same.new fp) _ _ el)) (rdS sp), .lst (SqL.of upd_same) .nil, shS sp nok, by decide +kernel, _, rfl, by
        rw [eqvS]
        exact ite2 (fun _ => ⟨_, rfl, _, _, rfl, rfl, _, rfl, ite2 (fun hroom => ⟨_, rfl, _, rfl, _, _, rfl, kept, spare, nb / 8, (B.up (Same.new fp)), rfl, fun lo l0 l1 => ⟨_, rfl, _, rfl, _, rfl, _, rfl, _, _, rfl, rfl, ⟨by decide, by decide⟩, _, _, rfl, rfl, (by show (0 : Int) < 4; decide), _, _, rfl, rfl, (by show 4 ≤ sizeLine; decide), fun t ft => inp lo _ _ t (Same.new fp) hroom (by omega) (by omega) l0 l1 ft⟩⟩) (fun _ => ⟨_, rfl, _, rfl, _, rfl, _, _, rfl, kept, spare, nb / 8, (B.up (Same.new fp)), rfl, fun v v0 v1 => ⟨(by show 3 ≤ sizeLine; decide), fun t ft => num v _ t (Same.new fp) v0 v1 ft⟩⟩)⟩) (fun h => ⟨rfl, Same.new fp, fun z => h (decide_eq_true z)⟩)⟩⟩)⟩)⟩) (fun _ => iteF ⟨_, rfl, la, _, rfl, .inl (SqL.of el), _, _, rfl, rfl, _, rfl, ite2 (fun _ => ⟨_, rfl, _, _, rfl, rfl, (by show (0 : Int) < 8; decide), _, _, rfl, rfl, _, rfl, ite2 (fun _ => iteT ⟨_, rfl, _, _, rfl, rfl, _, rfl, ite2 (fun hroom => ⟨_, rfl, _, rfl, _, _, rfl, kept, spare, nb / 8, B, rfl, fun lo l0 l1 => ⟨_, rfl, _, rfl, _, rfl, _, rfl, _, _, rfl, rfl, ⟨by decide, by decide⟩, _, _, rfl, rfl, (by show (0 : Int) < 4; decide), _, _, rfl, rfl, (by show 4 ≤ sizeLine; decide), fun t ft => inp lo _ _ t (Same.refl _) hroom (by omega) (by omega) l0 l1 ft⟩⟩) (fun _ => ⟨_, rfl, _, rfl, _, rfl, _, _, rfl, kept, spare, nb / 8, B, rfl, fun v v0 v1 => ⟨(by show 3 ≤ sizeLine; decide), fun t ft => num v _ t (Same.refl _) v0 v1 ft⟩⟩)⟩) (fun _ => ⟨_, rfl, by decide, fun p fp => ⟨_, _, .lst (SqL.of ((Same.new fp) _ _ el)) (rdS sp), .lst (SqL.of upd_same) .nil, shS sp nok, by decide +kernel, _, rfl, by
        rw [eqvS]
        exact ite2 (fun _ => ⟨_, rfl, _, _, rfl, rfl, _, rfl, ite2 (fun hroom => ⟨_, rfl, _, rfl, _, _, rfl, kept, spare, nb / 8, (B.up (Same.new fp)), rfl, fun lo l0 l1 => ⟨_, rfl, _, rfl, _, rfl, _, rfl, _, _, rfl, rfl, ⟨by decide, by decide⟩, _, _, rfl, rfl, (by show (0 : Int) < 4; decide), _, _, rfl, rfl, (by show 4 ≤ sizeLine; decide), fun t ft => inp lo _ _ t (Same.new fp) hroom (by omega) (by omega) l0 l1 ft⟩⟩) (fun _ => ⟨_, rfl, _, rfl, _, rfl, _, _, rfl, kept, spare, nb / 8, (B.up (Same.new fp)), rfl, fun v v0 v1 => ⟨(by show 3 ≤ sizeLine; decide), fun t ft => num v _ t (Same.new fp) v0 v1 ft⟩⟩)⟩) (fun h => ⟨rfl, Same.new fp, fun z => h (decide_eq_true z)⟩)⟩⟩)⟩) (fun _ => iteF ⟨_, rfl, by decide, fun p fp => ⟨_, _, .lst (SqL.of ((Same.new fp) _ _ el)) (rdS sp), .lst (SqL.of upd_same) .nil, shS sp nok, by decide +kernel, _, rfl, by
        rw [eqvS]
        exact ite2 (fun _ => ⟨_, rfl, _, _, rfl, rfl, _, rfl, ite2 (fun hroom => ⟨_, rfl, _, rfl, _, _, rfl, kept, spare, nb / 8, (B.up (Same.new fp)), rfl, fun lo l0 l1 => ⟨_, rfl, _, rfl, _, rfl, _, rfl, _, _, rfl, rfl, ⟨by decide, by decide⟩, _, _, rfl, rfl, (by show (0 : Int) < 4; decide), _, _, rfl, rfl, (by show 4 ≤ sizeLine; decide), fun t ft => inp lo _ _ t (Same.new fp) hroom (by omega) (by omega) l0 l1 ft⟩⟩) (fun _ => ⟨_, rfl, _, rfl, _, rfl, _, _, rfl, kept, spare, nb / 8, (B.up (Same.new fp)), rfl, fun v v0 v1 => ⟨(by show 3 ≤ sizeLine; decide), fun t ft => num v _ t (Same.new fp) v0 v1 ft⟩⟩)⟩) (fun h => ⟨rfl, Same.new fp, fun z => h (decide_eq_true z)⟩)⟩⟩)⟩)⟩
  rintro _ H1 ⟨rfl, S1, hne⟩
  have B1 := B.up S1
  have el1 := S1 _ _ el
  have nl : 1 ≤ sp.length := List.length_pos_iff.mpr hne
  refine ⟨_, rfl, _, _, rfl, rfl, (by show (0 : Int) < 8; decide), rfl, _, rfl, ite2 (fun _ => ?_) (fun _ => ?_)⟩
  · exact ⟨_, rfl, _, rfl, _, rfl, _, _, rfl, kept, spare, nb / 8, B1, rfl, fun v v0 v1 => ⟨(by show 3 ≤ sizeLine; decide), fun t ft => num v _ t S1 v0 v1 ft⟩⟩
  have dp : (0 : Int) < ((sp.map V.str).length : Int) := by rw [List.length_map]; omega
  have m0 := md0 (nb / 8) dp
  have m1 := md1 (nb / 8) dp
  have i60 : ((sp.map V.str).length : Int) ≤ 60 := by rw [List.length_map]; omega
  have hi : (nb / 8 % ((sp.map V.str).length : Int)).toNat < sp.length := by rw [List.length_map] at m1 ⊢; omega
  have hl := List.getElem?_eq_getElem hi
  generalize hli : sp[(nb / 8 % ((sp.map V.str).length : Int)).toNat] = l at hl
  have hg : (sp.map V.str)[(nb / 8 % ((sp.map V.str).length : Int)).toNat]? = some (.str l) := by rw [List.getElem?_map, hl]; rfl
  refine ⟨_, rfl, .inl ⟨rfl, _, SqL.of el1⟩, _, rfl, _, rfl, la, _, rfl, .inl (SqL.of el1), _, _, rfl, rfl, dp, la, _, _, _, _, rfl, rfl, el1, by omega, by omega, sq_idx m0 m1, hg, ?_⟩
  clear hli
  generalize (nb / 8 % ((sp.map V.str).length : Int)).toNat = i at *
  rw [eraseIdx_mapL]
  have S2 : SB la H (upd H1 la (.lst ((sp.eraseIdx i).map V.str))) := SB.trans (Same.sb S1) SB.upd
  have el2 : upd H1 la (.lst ((sp.eraseIdx i).map V.str)) la = some (.lst ((sp.eraseIdx i).map V.str)) := upd_same
  generalize upd H1 la (.lst ((sp.eraseIdx i).map V.str)) = H2 at *
  have nok2 : ∀ n ∈ sp.eraseIdx i, PyData.strOk n = true := fun n hn => nok n (List.mem_of_mem_eraseIdx hn)
  have div : ∀ (H3 : Hp) (t : Addr), Same H2 H3 → H3 t = none → Q (.ref t) (upd H3 t (.tup (PR.div nm l (1 + nb / 8 / 8 % 5)).vals)) := fun H3 t S ft =>
    q t (.div nm l (1 + nb / 8 / 8 % 5)) (sp.eraseIdx i) _ (S2.trans (Same.sb (S.trans (Same.new ft)))) ((S.trans (Same.new ft)) _ _ el2) upd_same rfl (.div nm l _ i hl (by omega) (by omega)) trivial fun z => nomatch z
  refine ⟨_, rfl, _, _, rfl, rfl, (by show (0 : Int) < 8; decide), rfl, _, rfl, ite2 (fun _ => iteT ?_) (fun _ => ?_)⟩
  · exact ⟨_, rfl, _, rfl, _, rfl, _, _, rfl, rfl, ⟨by decide, by decide⟩, _, _, rfl, rfl, (by show (0 : Int) < 5; decide), _, _, rfl, rfl, (by show 4 ≤ sizeLine; decide), fun t ft => div _ t (Same.refl _) ft⟩
  refine ⟨_, rfl, by decide, fun p fp => ⟨_, _, .lst (SqL.of ((Same.new fp) _ _ el2)) (rdS (sp.eraseIdx i)), .lst (SqL.of upd_same) .nil, shS (sp.eraseIdx i) nok2, by decide +kernel, _, rfl, ?_⟩⟩
  rw [eqvS]
  refine ite2 (fun _ => ?_) (fun h => ?_)
  · exact ⟨_, rfl, _, rfl, _, rfl, _, _, rfl, rfl, ⟨by decide, by decide⟩, _, _, rfl, rfl, (by show (0 : Int) < 5; decide), _, _, rfl, rfl, (by show 4 ≤ sizeLine; decide), fun t ft => div _ t (Same.new fp) ft⟩
  have hne2 : sp.eraseIdx i ≠ [] := fun z => h (decide_eq_true z)
  have N2 := Same.new (o := .lst []) fp
  have el3 := N2 _ _ el2
  have S3 : SB la H (upd H2 p (.lst [])) := S2.trans (Same.sb N2)
  generalize upd H2 p (.lst []) = H3 at *
  have nl2 : 1 ≤ (sp.eraseIdx i).length := List.length_pos_iff.mpr hne2
  have n602 : (sp.eraseIdx i).length ≤ 60 := Nat.le_trans (List.length_eraseIdx_le ..) n60
  have h4 : ∀ i : Int, 0 ≤ i → i < 4 → ∃ dd : Str, (dd = "add" ∨ dd = "take" ∨ dd = "mul") ∧ atI [V.str "add", V.str "take", V.str "mul", V.str "add"] i = some (.str dd) := fun i i0 i3 => by
    have : i = 0 ∨ i = 1 ∨ i = 2 ∨ i = 3 := by omega
    rcases this with rfl | rfl | rfl | rfl
    · exact ⟨_, .inl rfl, rfl⟩
    · exact ⟨_, .inr (.inl rfl), rfl⟩
    · exact ⟨_, .inr (.inr rfl), rfl⟩
    · exact ⟨_, .inl rfl, rfl⟩
  obtain ⟨dd, hdd, hat⟩ := h4 (nb % 4) (by omega) (by omega)
  have tw := fun (r : Str) (j : Nat) (hj : (sp.eraseIdx i)[j]? = some r) => TRow.two (sp := sp) dd nm l r i j hdd hl hj
  generalize sp.eraseIdx i = sq at *
  have dp2 : (0 : Int) < ((sq.map V.str).length : Int) := by rw [List.length_map]; omega
  have k0 := md0 (nb / 8 / 8) dp2
  have k1 := md1 (nb / 8 / 8) dp2
  have i602 : ((sq.map V.str).length : Int) ≤ 60 := by rw [List.length_map]; omega
  have hi2 : (nb / 8 / 8 % ((sq.map V.str).length : Int)).toNat < sq.length := by rw [List.length_map] at k1 ⊢; omega
  have hl2 := List.getElem?_eq_getElem hi2
  generalize hli : sq[(nb / 8 / 8 % ((sq.map V.str).length : Int)).toNat] = r at hl2
  have hg2 : (sq.map V.str)[(nb / 8 / 8 % ((sq.map V.str).length : Int)).toNat]? = some (.str r) := by rw [List.getElem?_map, hl2]; rfl
  refine ⟨(by show 4 ≤ sizeLine; decide), fun p2 fp2 => ?_⟩
  have N4 := Same.new (o := .lst [.str "add", .str "take", .str "mul", .str "add"]) fp2
  have el4 := N4 _ _ el3
  refine ⟨_, rfl, _, _, rfl, rfl, (by show (0 : Int) < 4; decide), p2, _, _, _, rfl, rfl, SqL.of upd_same, hat, _, rfl, _, rfl, ?_⟩
  have S4 := S3.trans (Same.sb N4)
  generalize upd H3 p2 (.lst [.str "add", .str "take", .str "mul", .str "add"]) = H4 at *
  refine ⟨_, rfl, .inl ⟨rfl, _, SqL.of el4⟩, _, rfl, _, _, rfl, rfl, ⟨by decide, by decide⟩, _, rfl, la, _, rfl, .inl (SqL.of el4), _, _, rfl, rfl, dp2, la, _, _, _, _, rfl, rfl, el4, by omega, by omega, sq_idx k0 k1, hg2, (by show 4 ≤ sizeLine; decide), fun t ft => ?_⟩
  clear hli
  generalize (nb / 8 / 8 % ((sq.map V.str).length : Int)).toNat = j at *
  rw [eraseIdx_mapL] at ft ⊢
  exact q t (.two dd nm l r) _ _ (S4.trans (SB.upd.trans (Same.sb (Same.new ft)))) ((Same.new ft) _ _ upd_same) upd_same rfl (tw r j hl2) trivial fun z => nomatch z
end
end K20
set_option Elab.async false
set_option linter.all false
set_option maxRecDepth 100000
set_option maxHeartbeats 4000000
namespace K20
open PySem L2 RF
seal L2.PE L2.PA L2.PS L2.PSs L2.PT L2.PG L2.PI L2.PK L2.PO L2.PEx L2.PSx L2.PSxs L2.PH L2.PW L2.PGs L2.OpR L2.CallR L2.SlR L2.IxR
section
variable {P : Program} {w : World} {K : PySem.W.Frag} {mg : Str → Option Value} {base : Heap} {cR cT cI cG : Addr}
theorem nd_erase {l : Str} : ∀ {xs : List Str} {i : Nat}, xs.Nodup → xs[i]? = some l → l ∉ xs.eraseIdx i
  | [], _, _, h => by cases h
  | x :: xs, 0, nd, h => by cases h; exact (List.nodup_cons.mp nd).1
  | x :: xs, i + 1, nd, h => fun z => by
    have h : xs[i]? = some l := h
    rcases List.mem_cons.mp z with rfl | z
    · exact (List.nodup_cons.mp nd).1 (List.mem_of_getElem? h)
    · exact nd_erase (List.nodup_cons.mp nd).2 h z
theorem TRow.sub {sp sp' : List Str} {r : PR} (h : TRow sp r sp') : (∀ s ∈ sp', s ∈ sp) ∧ (sp.Nodup → sp'.Nodup) ∧ sp'.length ≤ sp.length := by
  cases h with
  | inp => exact ⟨fun _ h => h, id, Nat.le_refl _⟩
  | num => exact ⟨fun _ h => h, id, Nat.le_refl _⟩
  | div nm l d i => exact ⟨fun _ h => List.mem_of_mem_eraseIdx h, fun h => h.eraseIdx i, List.length_eraseIdx_le ..⟩
  | two deed nm l r i j => exact ⟨fun _ h => List.mem_of_mem_eraseIdx (List.mem_of_mem_eraseIdx h), fun h => (h.eraseIdx i).eraseIdx j, Nat.le_trans (List.length_eraseIdx_le ..) (List.length_eraseIdx_le ..)⟩
theorem TRow.ok {sp sp' : List Str} {r : PR} {k : Knw} (h : TRow sp r sp') (hk : ∀ n ∈ sp, (k n).isSome) : RowOk k r := by
  cases h with
  | inp nm lo hi h => exact .inp nm lo hi h
  | num nm v => exact .num nm v
  | div nm l d i hi hd hd' => exact .div nm l d (hk l (List.mem_of_getElem? hi)) hd (Nat.lt_of_le_of_lt (Nat.log2_le_self _) (by omega))
  | two deed nm l r i j hd hi hj => exact .two deed nm l r hd (hk l (List.mem_of_getElem? hi)) (hk r (List.mem_of_mem_eraseIdx (List.mem_of_getElem? hj)))
theorem TRow.tidy {sp sp' : List Str} {r : PR} {rs : List PR} (h : TRow sp r sp') (ht : Tidy rs sp) (nd : sp.Nodup) (hn : r.name ∉ sp) : Tidy (rs ++ [r]) (sp' ++ [r.name]) := by
  have sub := h.sub.1
  cases h with
  | inp nm lo hi _ => exact .inp ht nm lo hi hn
  | num nm v => exact .num ht nm v hn
  | div nm l d i hi _ _ => exact .div ht nm l d (List.mem_of_getElem? hi) _ (fun s hs => ⟨sub s hs, fun z => nd_erase nd hi (z ▸ hs)⟩) (fun z => hn (sub _ z))
  | two deed nm l r i j hd hi hj =>
    refine .two ht deed nm l r (List.mem_of_getElem? hi) (List.mem_of_mem_eraseIdx (List.mem_of_getElem? hj)) (fun z => nd_erase nd hi (z ▸ List.mem_of_getElem? hj)) _ (fun s hs => ⟨sub s hs, fun z => nd_erase nd hi (z ▸ List.mem_of_mem_eraseIdx hs), fun z => nd_erase (nd.eraseIdx i) hj (z ▸ hs)⟩) (fun z => hn (sub _ z))
theorem thead_mul {sp sp' : List Str} {r : PR} (h : TRow sp r sp') : decide (V.str (PR.head r) = V.str "mul") = isMul r := by
  cases h with
  | inp => exact decide_eq_false (fun z => absurd (V.str.inj z) (show ¬ ("in" : Str) = "mul" by decide))
  | num => exact decide_eq_false (fun z => absurd (V.str.inj z) (show ¬ ("num" : Str) = "mul" by decide))
  | div => exact decide_eq_false (fun z => absurd (V.str.inj z) (show ¬ ("div" : Str) = "mul" by decide))
  | two deed nm l r i j hd _ _ =>
    show decide (V.str deed = V.str "mul") = decide (deed = "mul")
    by_cases h : deed = "mul"
    · rw [decide_eq_true h, decide_eq_true (congrArg V.str h)]
    · rw [decide_eq_false h, decide_eq_false fun z => h (V.str.inj z)]
theorem thead_in {sp sp' : List Str} {r : PR} (h : TRow sp r sp') : decide (V.str (PR.head r) = V.str "in") = isIn r := by
  cases h with
  | inp => rfl
  | num => exact decide_eq_false (fun z => absurd (V.str.inj z) (show ¬ ("num" : Str) = "in" by decide))
  | div => exact decide_eq_false (fun z => absurd (V.str.inj z) (show ¬ ("div" : Str) = "in" by decide))
  | two deed nm l r i j hd _ _ => exact decide_eq_false (fun z => by
      have z : deed = "in" := V.str.inj z
      rw [z] at hd
      rcases hd with h | h | h <;> cases h)
noncomputable def Narrow (r : PR) : Prop := ∀ nm lo hi, r = .inp nm lo hi → hi - lo ≤ 3
theorem TRow.narrow {sp sp' : List Str} {r : PR} (h : TRow sp r sp') : Narrow r := fun nm lo hi e => by
  cases h with
  | inp _ _ _ _ h3 => cases e; exact h3
  | _ => cases e
theorem RowsAt.sb {la : Addr} {H H' : Hp} {as : List Addr} {rs : List PR} {xs : List V} (h : RowsAt H as rs) (S : SB la H H') (hl : H la = some (.lst xs)) : RowsAt H' as rs := by
  induction h with
  | nil => exact .nil
  | cons h _ ih => exact .cons (S _ _ (fun z => by rw [z, hl] at h; cases h) h) ih
inductive isp_tprog (a b c : V) (H : Hp) (Q : VK) (E : XK) : Prop
  | mk (kept spare : List Int) (lc : Addr) (cs : List Int) (st : Int) (h0 : Bas H a kept spare) (h1 : b = .ref lc) (h2 : H lc = some (.lst (cs.map V.int))) (h3 : cs.length ≤ 60) (h4 : c = .int st) (h5 : 0 ≤ st)
      (q : ∀ l as rs sp H', Same H H' → H' l = some (.lst (as.map V.ref)) → RowsAt H' as rs → rs.length ≤ 60 → muls rs ≤ 6 → AllOk noneK rs → (rs.map PR.name).Nodup → nin rs ≤ 4 → (∀ r ∈ rs, Narrow r) → Tidy rs sp → Q (.ref l) H') : isp_tprog a b c H Q E
noncomputable def sp_tprog : Sp := Sp3 isp_tprog
noncomputable abbrev s__law_tidy_program : Stmt := top 38
theorem sc__law_tidy_program : FnScope ["_law_base", "_law_cells", "_law_style", "_law_rows", "_law_spare", "_law_room", "_law_few", "_law_k", "_law_cell", "_law_row"] ["_law_base", "_law_cells", "_law_style"] (defScope s__law_tidy_program) := ⟨rfl, rfl, rfl, by decide +kernel, rfl, by decide +kernel, by decide +kernel⟩
theorem b__law_tidy_program : BindsAll "_law_tidy_program" s__law_tidy_program ["_law_base", "_law_cells", "_law_style"] := binds3 fun _ _ _ _ _ _ _ _ _ => rfl
theorem ok_tprog (D : Def K mg "_law_tidy_program" s__law_tidy_program) (T : Txt K mg cR cT cI cG) (F__law_tidy_row : FnS P w K mg base "_law_tidy_row" ["_law_base", "_law_number", "_law_name", "_law_spare", "_law_room"] 3 sp_trow) (F__law_mixed : FnS P w K mg base "_law_mixed" ["_law_number", "_law_k"] 1 sp_mixed) (F__law_name_by : FnS P w K mg base "_law_name_by" ["_law_style", "_law_k"] 1 sp_nameN) : FnS P w K mg base "_law_tidy_program" ["_law_base", "_law_cells", "_law_style"] 4 sp_tprog := by
  refine D.ok sc__law_tidy_program b__law_tidy_program sp3_len fun f cdv A outer s H vs Q E hr h => ?_
  obtain ⟨_, _, _, rfl, kept, spare, lc, cs, st, B, rfl, ec, c60, rfl, st0, q⟩ := h
  obtain ⟨⟨tb, rfl, hb⟩, gb⟩ := id B
  refine ⟨_, (pss_cons (ps_set (i := 3) sc__law_tidy_program.nd rfl (Or.inl rfl) (pe_lst pa_nil))
      (pss_cons (ps_set (i := 4) sc__law_tidy_program.nd rfl (Or.inl rfl) (pe_lst pa_nil))
      (pss_cons (ps_set (i := 5) sc__law_tidy_program.nd rfl (Or.inl rfl) pe_int)
      (pss_cons (ps_set (i := 6) sc__law_tidy_program.nd rfl (Or.inl rfl) pe_int)
      (pss_cons (ps_for own_pass rfl (pi_enum rfl T.enumerate (ac (pv 1) pa_nil)) (pg_tup (n := 2) rfl (pgs_cons (pg_name (i := 7) sc__law_tidy_program.nd rfl (Or.inl rfl)) (pgs_cons (pg_name (i := 8) sc__law_tidy_program.nd rfl (Or.inl rfl)) pgs_nil)))
        (pss_cons (ps_set (i := 9) sc__law_tidy_program.nd rfl (Or.inl rfl) (cFn F__law_tidy_row hr passes0 (ac (pv 0) (ac (cFn F__law_mixed hr passes0 (ac (pv 8) (ac (pv 7) pa_nil))) (ac (cFn F__law_name_by hr passes0 (ac (pv 2) (ac (pv 7) pa_nil))) (ac (pv 4) (ac (pv 5) pa_nil)))))))
        (pss_cutF (Gr) (ps_if (PW.pt (pw_and (pt_cmpR op_eq (pe_ix ix0T (pv 9) pe_int (fun _ _ => rfl)) pe_str (nomark _)) (pw_and1 (pt_cmpR op_eq (pv 6) pe_int (nomark _)))))
          (pss_one (ps_set (i := 9) sc__law_tidy_program.nd rfl (Or.inl rfl) (pe_tup (ac pe_str (ac (pe_ix ix0T (pv 9) pe_int (fun _ _ => rfl)) (ac (pe_ix ix0T (pv 9) pe_int (fun _ _ => rfl)) (ac (pe_ix ix0T (pv 9) pe_int (fun _ _ => rfl)) pa_nil)))))))
          pss_nil)
        (pss_cons (ps_set (i := 5) sc__law_tidy_program.nd rfl (Or.inl rfl) (pe_op op_sub (pv 5) (cTy call_int1 (by rfl) T.int PyProof.Rows.Boot.«int» (ac (pe_cmpR op_eq (pe_ix ix0T (pv 9) pe_int (fun _ _ => rfl)) pe_str (nomark _)) pa_nil))))
        (pss_cons (ps_set (i := 6) sc__law_tidy_program.nd rfl (Or.inl rfl) (pe_op op_sub (pv 6) (cTy call_int1 (by rfl) T.int PyProof.Rows.Boot.«int» (ac (pe_cmpR op_eq (pe_ix ix0T (pv 9) pe_int (fun _ _ => rfl)) pe_str (nomark _)) pa_nil))))
        (pss_cons (ps_expr (pe_bm PySem.F.plainAttrs_list PySem.F.slot_list_append PySem.F.type_list_append mt_append (pv 3) (ac (pv 9) pa_nil)))
        (pss_one (ps_expr (pe_bm PySem.F.plainAttrs_list PySem.F.slot_list_append PySem.F.type_list_append mt_append (pv 4) (ac (pe_ix ix0T (pv 9) pe_int (fun _ _ => rfl)) pa_nil))))))))))
      (pss_one (ps_ret (pv 3)))))))), ?_⟩
  try (set_option simprocs false in dsimp only [cxOf])
  have s300 : (300 : Nat) ≤ sizeLine := by decide
  refine ⟨by decide, fun lr fr => ⟨by decide, fun la fa => ?_⟩⟩
  have N1 := Same.new (o := .lst []) fr
  have N2 := Same.new (o := .lst []) fa
  have ne : lr ≠ la := fun z => by rw [← z, upd_same] at fa; cases fa
  have hla : H la = none := N1.free fa
  refine ⟨_, rfl, lc, rfl, ⟨_, SqL.of ((N1.trans N2) _ _ ec)⟩, for_enum (K := K) (xs := cs.map V.int) (fun i σ H' => ∃ (rm : Int) (y7 y8 y9 : Option V) (as : List Addr) (rs : List PR) (sp : List Str), σ = [some (.ref tb), some (.ref lc), some (.int st), some (.ref lr), some (.ref la), some (.int rm), some (.int (6 - (muls rs : Int))), y7, y8, y9] ∧ Same H H' ∧ H' lr = some (.lst (as.map V.ref)) ∧ H' la = some (.lst (sp.map V.str)) ∧ RowsAt H' as rs ∧ rs.length = i ∧ muls rs ≤ 6 ∧ AllOk noneK rs ∧ (∀ r ∈ rs, PyData.strOk r.name = true) ∧ (∀ r ∈ rs, (knows noneK rs r.name).isSome) ∧ (∀ (j : Nat) r, rs[j]? = some r → NameOf st (j : Int) r.name) ∧ rm = 4 - (nin rs : Int) ∧ nin rs ≤ 4 ∧ (∀ r ∈ rs, Narrow r) ∧ Tidy rs sp ∧ sp.Nodup ∧ (∀ s ∈ sp, ∃ r ∈ rs, r.name = s) ∧ sp.length ≤ i)
    ⟨4, _, _, _, [], [], [], rfl, N1.trans N2, N2 _ _ upd_same, upd_same, .nil, rfl, by decide, trivial, (fun _ z => nomatch z), (fun _ z => nomatch z), (fun _ _ z => nomatch z), rfl, by decide, (fun _ z => nomatch z), .nil, List.nodup_nil, (fun _ z => nomatch z), Nat.le_refl _⟩ (fun i σ H' ⟨_, _, _, _, _, _, _, _, S, _⟩ => SqL.of (S _ _ ec)) ?_ ?_⟩
  rotate_left
  · rintro σ H3 ⟨rm, y7, y8, y9, as, rs, sp, rfl, S, er, ea, R, hl, hm, ok, nok, _, nof, hrm, n4, nar, ti, _, _, _⟩
    have hl : rs.length = (cs.map V.int).length := hl
    rw [List.length_map] at hl
    exact ⟨_, rfl, q lr as rs sp H3 S er R (by omega) hm ok (names_nd nof (by omega)) n4 nar ti⟩
  rintro i x pp σ H3 hx ⟨rm, y7, y8, y9, as, rs, sp, rfl, S3, er, ea, R, hl, hm, ok, nok, kn, nof, hrm, n4, nar, ti, snd, smem, slen⟩ hp
  obtain ⟨z, hz, rfl⟩ := ints_at hx
  have hi := (List.getElem?_eq_some_iff.mp hz).1
  have NP := Same.new (o := .tup [.int (i : Int), .int z]) hp
  refine ⟨pp, _, rfl, SqT.of upd_same, rfl, _, _, rfl, _, _, rfl, rfl, ?_⟩
  have S4 := S3.trans NP
  have er := NP _ _ er
  have ea := NP _ _ ea
  have R := R.up NP
  generalize upd H3 pp (.tup [.int (i : Int), .int z]) = H4 at *
  refine ⟨_, rfl, _, rfl, _, rfl, _, _, rfl, z, (i : Int), rfl, rfl, by omega, by omega, fun nb nb0 _ => ⟨_, rfl, _, rfl, _, _, rfl, st, (i : Int), rfl, rfl, st0, by omega, by omega, fun nm nmok nmof => ⟨_, rfl, _, rfl, _, _, _, _, _, rfl, kept, spare, nb, rm, nm, la, sp, B.up S4, rfl, rfl, rfl, ea, (by omega), rfl, (fun n hn => by obtain ⟨r, hr', rfl⟩ := smem n hn; exact nok r hr'), fun t r sp' H5 S5 ea5 et hn lrw rb hin => ?_⟩⟩⟩
  have er := S5 _ _ ne er
  have R := K20.RowsAt.sb R S5 ea
  have S5' : Same H H5 := fun a o e => S5 a o (fun z => by rw [z, hla] at e; cases e) (S4 a o e)
  clear ea S5
  refine ⟨fun σ H' => ∃ (t : Addr) (r : PR), σ = [some (.ref tb), some (.ref lc), some (.int st), some (.ref lr), some (.ref la), some (.int rm), some (.int (6 - (muls rs : Int))), some (.int (i : Int)), some (.int z), some (.ref t)] ∧ Same H5 H' ∧ H' t = some (.tup r.vals) ∧ r.name = nm ∧ TRow sp r sp' ∧ RowBig r ∧ (isMul r = true → muls rs < 6) ∧ (isIn r = true → 0 < rm), ?_, ?_⟩
  rotate_left
  · obtain ⟨xs, ev⟩ := vals_head r
    have et' := et
    rw [ev] at et'
    refine ⟨_, rfl, t, _, _, _, rfl, rfl, SqT.of et', at0, rfl, _, rfl, ?_⟩
    rw [thead_mul lrw]
    refine iteE (fun hmul => ?_) (fun hmul => ?_)
    · refine ⟨_, rfl, rfl, _, rfl, iteE (fun h0 => ?_) (fun h0 => ?_)⟩
      · cases lrw with
        | inp => cases hmul
        | num => cases hmul
        | div => cases hmul
        | two deed nm' l r' i j hd h1 h2 =>
          refine ⟨_, rfl, t, _, _, _, rfl, rfl, SqT.of et, rfl, _, rfl, t, _, _, _, rfl, rfl, SqT.of et, rfl, _, rfl, t, _, _, _, rfl, rfl, SqT.of et, rfl, (by show 4 ≤ sizeLine; decide), fun t2 ft2 => ?_⟩
          exact ⟨t2, .two "take" nm' l r', rfl, Same.new ft2, upd_same, hn, .two "take" nm' l r' i j (.inr (.inl rfl)) h1 h2, trivial, (fun z => absurd (show decide (("take" : Str) = "mul") = true from z) (by decide)), fun z => nomatch z⟩
      · have h0 : ¬ (6 - (muls rs : Int)) = 0 := fun z => of_decide_eq_false h0 (congrArg V.int z)
        exact ⟨t, r, rfl, Same.refl _, et, hn, lrw, rb, fun _ => by omega, hin⟩
    · exact ⟨t, r, rfl, Same.refl _, et, hn, lrw, rb, (fun z => by rw [hmul] at z; cases z), hin⟩
  clear lrw rb hn et hin t r
  rintro _ H6 ⟨t, r, rfl, S6, et, hn, lrw, rb, hmul, hin⟩
  have er := S6 _ _ er
  have ea := S6 _ _ ea5
  have R := R.up S6
  have S6' := S5'.trans S6
  obtain ⟨xs, ev⟩ := vals_head r
  have et' := et
  rw [ev] at et'
  refine ⟨_, rfl, _, rfl, t, _, _, _, rfl, rfl, SqT.of et', at0, rfl, .inr ⟨_, rfl, _, _, rfl, rfl, ?_⟩⟩
  refine ⟨_, rfl, _, rfl, t, _, _, _, rfl, rfl, SqT.of et', at0, rfl, .inr ⟨_, rfl, _, _, rfl, rfl, ?_⟩⟩
  rw [thead_mul lrw]
  have tr : t ≠ lr := fun z => by rw [z, er] at et; cases et
  have ta : t ≠ la := fun z => by rw [z, ea] at et; cases et
  refine ⟨_, rfl, .inl ⟨rfl, _, SqL.of er⟩, _, rfl, lr, _, _, rfl, rfl, er, (by rw [List.length_map, R.len]; omega), ?_⟩
  have ea7 : upd H6 lr (.lst (as.map V.ref ++ [.ref t])) la = some (.lst (sp'.map V.str)) := by rw [upd_ne ne.symm]; exact ea
  have et7 : upd H6 lr (.lst (as.map V.ref ++ [.ref t])) t = some (.tup (.str (PR.head r) :: .str r.name :: xs)) := by rw [upd_ne tr]; exact et'
  have R7 : RowsAt (upd H6 lr (.lst (as.map V.ref ++ [.ref t]))) (as ++ [t]) (rs ++ [r]) := K20.RowsAt.snoc (K20.RowsAt.updL R er) (by rw [upd_ne tr]; exact et)
  have er7 : upd H6 lr (.lst (as.map V.ref ++ [.ref t])) lr = some (.lst ((as ++ [t]).map V.ref)) := by rw [upd_same, List.map_append]; rfl
  have S7 : Same H (upd H6 lr (.lst (as.map V.ref ++ [.ref t]))) := S6'.upd fr
  generalize upd H6 lr (.lst (as.map V.ref ++ [.ref t])) = H7 at *
  have sub := lrw.sub
  refine ⟨_, rfl, .inl ⟨rfl, _, SqL.of ea7⟩, _, rfl, t, _, _, _, rfl, rfl, SqT.of et7, at1, la, _, _, rfl, rfl, ea7, (by rw [List.length_map]; omega), ?_⟩
  have hm2 : (6 : Int) - (muls (rs ++ [r]) : Int) = 6 - (muls rs : Int) - (if isMul r = true then 1 else 0) := by
    rw [muls_snoc]
    cases isMul r
    · rw [if_neg Bool.false_ne_true, if_neg Bool.false_ne_true]; omega
    · rw [if_pos rfl, if_pos rfl]; omega
  have hnm : r.name ∉ rs.map PR.name := fun hz => by
    obtain ⟨r', hr', e⟩ := List.mem_map.mp hz
    obtain ⟨j, hj⟩ := List.getElem?_of_mem hr'
    have hjl := (List.getElem?_eq_some_iff.mp hj).1
    have h1 := nof j r' hj
    rw [e, hn] at h1
    have := NameOf.inj h1 nmof (by omega) (by omega) (by omega) (by omega)
    omega
  have hns : r.name ∉ sp := fun hz => by
    obtain ⟨r', hr', e⟩ := smem _ hz
    exact hnm (e ▸ List.mem_map_of_mem hr')
  refine ⟨rm - (if decide (V.str (PR.head r) = V.str "in") = true then 1 else 0), some (.int (i : Int)), some (.int z), some (.ref t), as ++ [t], rs ++ [r], sp' ++ [r.name], by rw [hm2]; rfl, S7.upd hla, by rw [upd_ne ne]; exact er7, by rw [upd_same, List.map_append]; rfl, K20.RowsAt.updL R7 ea7, by rw [List.length_append, hl]; rfl, ?_, K20.AllOk.snoc ok (lrw.ok fun n hn' => by obtain ⟨r', hr', rfl⟩ := smem n hn'; exact kn r' hr') rb, ?_, ?_, ?_, ?_, ?_, ?_, lrw.tidy ti snd hns, ?_, ?_, by rw [List.length_append]; exact Nat.succ_le_succ (Nat.le_trans sub.2.2 slen)⟩
  · rw [muls_snoc]
    cases hx : isMul r
    · exact hm
    · exact hmul hx
  · intro r' h'
    rcases List.mem_append.mp h' with z | z
    · exact nok r' z
    · rw [List.mem_singleton.mp z, hn]; exact nmok
  · intro r' h'
    rw [knows_snoc]
    unfold Knw.put
    by_cases hz : r'.name = r.name
    · rw [if_pos hz]; rfl
    · rw [if_neg hz]
      rcases List.mem_append.mp h' with z | z
      · exact kn r' z
      · rw [List.mem_singleton.mp z] at hz; exact absurd rfl hz
  · intro j r' h'
    rcases Nat.lt_or_ge j rs.length with hj | hj
    · rw [List.getElem?_append_left hj] at h'; exact nof j r' h'
    · rw [List.getElem?_append_right hj] at h'
      have hz : j - rs.length = 0 := by
        have := (List.getElem?_eq_some_iff.mp h').1
        simp at this
        omega
      rw [hz] at h'
      cases h'
      have : j = i := by omega
      rw [this, hn]; exact nmof
  · rw [hrm, nin_snoc, thead_in lrw]
    cases isIn r
    · rw [if_neg Bool.false_ne_true, if_neg Bool.false_ne_true]; omega
    · rw [if_pos rfl, if_pos rfl]; omega
  · rw [nin_snoc]
    cases hx : isIn r
    · exact n4
    · rw [if_pos rfl]
      have := hin hx
      omega
  · intro r' h'
    rcases List.mem_append.mp h' with z | z
    · exact nar r' z
    · rw [List.mem_singleton.mp z]; exact lrw.narrow
  · rw [List.nodup_append]
    refine ⟨sub.2.1 snd, List.nodup_cons.mpr ⟨(fun z => nomatch z), List.nodup_nil⟩, fun x hx y hy z => ?_⟩
    have hy : y = r.name := by simpa using hy
    exact hns (sub.1 _ (hy ▸ z ▸ hx))
  · intro s hs
    rcases List.mem_append.mp hs with z | z
    · obtain ⟨r', hr', e⟩ := smem s (sub.1 s z)
      exact ⟨r', List.mem_append_left _ hr', e⟩
    · rw [List.mem_singleton.mp z]
      exact ⟨r, List.mem_append_right _ List.mem_cons_self, rfl⟩
end
end K20
set_option Elab.async false
set_option linter.all false
set_option maxRecDepth 100000
set_option maxHeartbeats 4000000
namespace K20
open PySem L2 RF
seal L2.PE L2.PA L2.PS L2.PSs L2.PT L2.PG L2.PI L2.PK L2.PO L2.PEx L2.PSx L2.PSxs L2.PH L2.PW L2.PGs L2.OpR L2.CallR L2.SlR L2.IxR
section
variable {P : Program} {w : World} {K : PySem.W.Frag} {mg : Str → Option Value} {base : Heap} {cR cT cI cG : Addr}
theorem wide_len (p : Int × Int) (h : p.2 - p.1 ≤ 3) (acc : List (List Int)) : (wide acc p).length ≤ acc.length * 4 := by
  induction acc with
  | nil => exact Nat.le_refl _
  | cons c acc ih =>
    show (List.append ((List.range (p.2 + 1 - p.1).toNat).map fun (k : Nat) => c ++ [p.1 + (k : Int)]) (wide acc p)).length ≤ _
    rw [show List.append ((List.range (p.2 + 1 - p.1).toNat).map fun (k : Nat) => c ++ [p.1 + (k : Int)]) (wide acc p) = ((List.range (p.2 + 1 - p.1).toNat).map fun (k : Nat) => c ++ [p.1 + (k : Int)]) ++ wide acc p from rfl, List.length_append, List.length_map, List.length_range, List.length_cons]
    omega
theorem allI_len {ps : List (Int × Int)} (h : ∀ p ∈ ps, p.2 - p.1 ≤ 3) : (allI ps).length ≤ 4 ^ ps.length := by
  induction ps using snocInd with
  | h0 => exact Nat.le_refl _
  | h1 ps p ih =>
    rw [allI_snoc, List.length_append, List.length_singleton, Nat.pow_succ]
    refine Nat.le_trans (wide_len p (h p (List.mem_append_right _ List.mem_cons_self)) _) (Nat.mul_le_mul_right 4 (ih fun q hq => h q (List.mem_append_left _ hq)))
theorem wide_take {acc : List (List Int)} {m : Nat} {x : List Int} (p : Int × Int) (h : acc[m]? = some x) : wide (acc.take (m + 1)) p = wide (acc.take m) p ++ (List.range (p.2 + 1 - p.1).toNat).map fun (k : Nat) => x ++ [p.1 + (k : Int)] := by
  rw [List.take_add_one, h]
  unfold wide
  rw [List.flatMap_append]
  show _ ++ ((List.range (p.2 + 1 - p.1).toNat).map _ ++ []) = _
  rw [List.append_nil]
theorem ins_narrow {rs : List PR} (h : ∀ r ∈ rs, Narrow r) : ∀ p ∈ insOf rs, p.2 - p.1 ≤ 3 := fun p hp => by
  obtain ⟨r, hr, rfl⟩ := List.mem_map.mp hp
  have m := List.mem_filter.mp hr
  cases r with
  | inp nm lo hi => exact h _ m.1 nm lo hi rfl
  | _ => cases m.2
theorem nin_take_le (rs : List PR) (i : Nat) : nin (rs.take i) ≤ nin rs := (List.Sublist.filter isIn (List.take_sublist i rs)).length_le
inductive isp_alli (a : V) (H : Hp) (Q : VK) (E : XK) : Prop
  | mk (l : Addr) (as : List Addr) (rs : List PR) (h0 : a = .ref l) (h1 : H l = some (.lst (as.map V.ref))) (h2 : RowsAt H as rs) (h3 : rs.length ≤ 60) (h4 : AllOk noneK rs) (h5 : nin rs ≤ 4) (h6 : ∀ r ∈ rs, Narrow r)
      (q : ∀ lt cs H', Same H H' → H' lt = some (.lst (cs.map V.ref)) → CornAt H' cs (allI (insOf rs)) → cs.length ≤ 256 → Q (.ref lt) H') : isp_alli a H Q E
noncomputable def sp_alli : Sp := Sp1 isp_alli
noncomputable abbrev s__law_all_inputs : Stmt := top 39
theorem sc__law_all_inputs : FnScope ["_law_rows", "_law_found", "_law_row", "_law_longer", "_law_one", "_law_number"] ["_law_rows"] (defScope s__law_all_inputs) := ⟨rfl, rfl, rfl, by decide +kernel, rfl, by decide +kernel, by decide +kernel⟩
theorem b__law_all_inputs : BindsAll "_law_all_inputs" s__law_all_inputs ["_law_rows"] := binds1 fun _ _ _ _ _ _ _ => rfl
theorem ok_alli (D : Def K mg "_law_all_inputs" s__law_all_inputs) (T : Txt K mg cR cT cI cG) : FnS P w K mg base "_law_all_inputs" ["_law_rows"] 1 sp_alli := by
  refine D.ok sc__law_all_inputs b__law_all_inputs sp1_len fun f cdv A outer s H vs Q E hr h => ?_
  obtain ⟨_, rfl, l, as, rs, rfl, el, R, r60, ok, n4, nar, q⟩ := h
  refine ⟨_, (pss_cons (ps_set (i := 1) sc__law_all_inputs.nd rfl (Or.inl rfl) (pe_lst (ac (pe_lst pa_nil) pa_nil)))
      (pss_cons (ps_for own_pass rfl (pi_list (pv 0)) (pg_name (i := 2) sc__law_all_inputs.nd rfl (Or.inl rfl))
        (pss_one (ps_if (pt_cmpR op_eq (pe_ix ix0T (pv 2) pe_int (fun _ _ => rfl)) pe_str (nomark _))
          (pss_cons (ps_set (i := 3) sc__law_all_inputs.nd rfl (Or.inl rfl) (pe_lst pa_nil))
          (pss_cons (ps_for own_pass rfl (pi_list (pv 1)) (pg_name (i := 4) sc__law_all_inputs.nd rfl (Or.inl rfl))
            (pss_one (ps_for own_pass rfl (pi_rangeB rfl T.range (ac (pe_ix ix0T (pv 2) pe_int (fun _ _ => rfl)) (ac (pe_op op_add (pe_ix ix0T (pv 2) pe_int (fun _ _ => rfl)) pe_int) pa_nil))) (pg_name (i := 5) sc__law_all_inputs.nd rfl (Or.inl rfl))
              (pss_one (ps_expr (pe_bm PySem.F.plainAttrs_list PySem.F.slot_list_append PySem.F.type_list_append mt_append (pv 3) (ac (pe_op op0catS (pv 4) (pe_lst (ac (pv 5) pa_nil))) pa_nil)))))))
          (pss_one (ps_set (i := 1) sc__law_all_inputs.nd rfl (Or.inl rfl) (pv 3)))))
          pss_nil)))
      (pss_one (ps_ret (pv 1))))), ?_⟩
  try (set_option simprocs false in dsimp only [cxOf])
  have s2000 : (2000 : Nat) ≤ sizeLine := by decide
  have small : ∀ i, (allI (insOf (rs.take i))).length ≤ 256 := fun i => by
    refine Nat.le_trans (allI_len (ins_narrow fun r hr' => nar r (List.mem_of_mem_take hr'))) ?_
    rw [ins_len]
    exact Nat.pow_le_pow_right (n := 4) (by decide) (Nat.le_trans (nin_take_le rs i) n4)
  refine ⟨by decide, fun a0 f0 => ⟨by show 1 ≤ sizeLine; omega, fun l0 fl0 => ?_⟩⟩
  have N0 := Same.new (o := .lst []) f0
  have N1 := Same.new (o := .lst [.ref a0]) fl0
  have S0 := N0.trans N1
  have ea0 := N1 _ _ (upd_same : upd H a0 (.lst []) a0 = _)
  have el0 : upd (upd H a0 (.lst [])) l0 (.lst [.ref a0]) l0 = some (.lst ([a0].map V.ref)) := upd_same
  generalize upd (upd H a0 (.lst [])) l0 (.lst [.ref a0]) = H0 at *
  refine ⟨_, rfl, l, rfl, ⟨_, SqL.of (S0 _ _ el)⟩, for_list (K := K) (xs := as.map V.ref) (fun i σ H' => ∃ (y2 y3 y4 y5 : Option V) (lt : Addr) (cs : List Addr), σ = [some (.ref l), some (.ref lt), y2, y3, y4, y5] ∧ Same H H' ∧ H' lt = some (.lst (cs.map V.ref)) ∧ CornAt H' cs (allI (insOf (rs.take i))) ∧ ∀ c ∈ cs, H c = none)
    ⟨_, _, _, _, l0, [a0], rfl, S0, el0, ⟨rfl, fun i c x e1 e2 => ?_⟩, fun c hc => by rw [List.mem_singleton.mp hc]; exact f0⟩ (fun i σ H' _ ⟨_, _, _, _, _, _, _, S, _⟩ => SqL.of (S _ _ el)) ?_ ?_⟩
  · cases i with
    | zero => cases e1; cases e2; exact ea0
    | succ i => cases e1
  rotate_left
  · rintro σ H' ⟨y2, y3, y4, y5, lt, cs, rfl, S, et, CA, nw⟩
    have CA : CornAt H' cs (allI (insOf (rs.take (as.map V.ref).length))) := CA
    have sm := small (as.map V.ref).length
    rw [← CA.1] at sm
    rw [List.length_map, R.len, List.take_length] at CA
    exact ⟨_, rfl, q lt cs H' S et CA sm⟩
  rintro i x σ H' hx ⟨y2, y3, y4, y5, lt, cs, rfl, S, et, CA, nw⟩
  obtain ⟨a, ha, rfl⟩ := ints_ref hx
  obtain ⟨r, hr', ea⟩ := R.at ha
  have rok := (ok.at hr').1
  have tk : rs.take (i + 1) = rs.take i ++ [r] := by rw [List.take_add_one, hr']; rfl
  obtain ⟨xs0, ev⟩ := vals_head r
  have ea := S _ _ ea
  rcases head_in rok with hni | ⟨nm, lo, hi, rfl, hle⟩
  · rw [ev] at ea
    refine ⟨_, rfl, a, _, _, _, rfl, rfl, SqT.of ea, at0, rfl, _, rfl, iteFe (decide_eq_false fun z => hni (V.str.inj z)) ?_⟩
    refine ⟨_, _, _, _, lt, cs, rfl, S, et, ?_, nw⟩
    rw [tk, ins_snoc, not_in hni]
    exact (List.append_nil (insOf (rs.take i))).symm ▸ CA
  refine ⟨_, rfl, a, _, _, _, rfl, rfl, SqT.of ea, rfl, rfl, _, rfl, iteT ?_⟩
  have sm := small i
  have sm1 := small (i + 1)
  have e1 : allI (insOf (rs.take (i + 1))) = wide (allI (insOf (rs.take i))) (lo, hi) := by
    rw [tk, ins_snoc]
    show allI (insOf (rs.take i) ++ [(lo, hi)]) = _
    rw [allI_snoc]
  rw [e1] at sm1
  have xl : ∀ (m : Nat) x, (allI (insOf (rs.take i)))[m]? = some x → x.length ≤ 4 := fun m x h => by
    rw [(allI_in _ x (List.mem_of_getElem? h)).1, ins_len]; exact Nat.le_trans (nin_take_le rs i) n4
  generalize hacc : allI (insOf (rs.take i)) = acc at *
  have d3 : hi - lo ≤ 3 := nar _ (List.mem_of_getElem? hr') nm lo hi rfl
  have wl : ∀ m, (wide (acc.take m) (lo, hi)).length ≤ 1024 := fun m => by
    refine Nat.le_trans (wide_len (lo, hi) d3 _) ?_
    have := List.length_take_le' m acc
    omega
  refine ⟨by decide, fun ln fn => ?_⟩
  have NL := Same.new (o := .lst []) fn
  refine ⟨_, rfl, lt, rfl, ⟨_, SqL.of (NL _ _ et)⟩, for_list (K := K) (xs := cs.map V.ref) (fun m σ H2 => ∃ (y4 y5 : Option V) (ds : List Addr), σ = [some (.ref l), some (.ref lt), some (.ref a), some (.ref ln), y4, y5] ∧ Same H' H2 ∧ H2 ln = some (.lst (ds.map V.ref)) ∧ CornAt H2 ds (wide (acc.take m) (lo, hi)) ∧ (∀ c ∈ ds, H c = none ∧ c ≠ ln) ∧ Dom H H2)
    ⟨_, _, [], rfl, NL, upd_same, ⟨rfl, fun _ _ _ z => nomatch z⟩, (fun _ z => nomatch z), K20.Same.dom (S.trans NL)⟩ (fun i σ H' _ ⟨_, _, _, _, S, _⟩ => SqL.of (S _ _ et)) ?_ ?_⟩
  rotate_left
  · rintro σ H2 ⟨y4, y5, ds, rfl, S2, el2, CD, nd, D2⟩
    have CD : CornAt H2 ds (wide (acc.take (cs.map V.ref).length) (lo, hi)) := CD
    rw [List.length_map, CA.1, List.take_length] at CD
    refine ⟨_, rfl, _, _, _, _, ln, ds, rfl, S.trans S2, el2, ?_, fun c hc => (nd c hc).1⟩
    rw [e1]
    exact CD
  rintro m x σ H2 hx ⟨y4, y5, ds, rfl, S2, el2, CD, nd, D2⟩
  obtain ⟨c, hc, rfl⟩ := ints_ref hx
  obtain ⟨xs, hxx, ec⟩ := CA.at hc
  have x4 := xl m xs hxx
  have ea2 := S2 _ _ ea
  have w0 := wl m
  refine ⟨_, rfl, a, _, _, _, rfl, rfl, SqT.of ea2, rfl, _, rfl, a, _, _, _, rfl, rfl, SqT.of ea2, rfl, _, _, rfl, rfl, lo, hi + 1, rfl, for_range (lo := lo) (n := (hi + 1 - lo).toNat) (fun k σ H3 => ∃ (y5 : Option V) (ds : List Addr), σ = [some (.ref l), some (.ref lt), some (.ref a), some (.ref ln), some (.ref c), y5] ∧ Same H' H3 ∧ H3 ln = some (.lst (ds.map V.ref)) ∧ CornAt H3 ds (wide (acc.take m) (lo, hi) ++ (List.range k).map fun (k : Nat) => xs ++ [lo + (k : Int)]) ∧ (∀ c ∈ ds, H c = none ∧ c ≠ ln) ∧ Dom H H3)
    ⟨_, ds, rfl, S2, el2, (List.append_nil (wide (acc.take m) (lo, hi))).symm ▸ CD, nd, D2⟩ ?_ ?_⟩
  rotate_left
  · rintro σ H3 ⟨y5, ds, rfl, S3, el3, CD3, nd3, D3⟩
    refine ⟨_, _, ds, rfl, S3, el3, ?_, nd3, D3⟩
    rw [wide_take (lo, hi) hxx]
    exact CD3
  clear CD nd D2 el2 ea2 S2 ds
  rintro k σ H3 hk ⟨y5, ds, rfl, S3, el3, CD3, nd3, D3⟩
  have dl : ds.length ≤ 1030 := by
    rw [CD3.1, List.length_append, List.length_map, List.length_range]; omega
  have ec3 := S3 _ _ ec
  refine ⟨_, rfl, .inl ⟨rfl, _, SqL.of el3⟩, _, rfl, _, rfl, by show 1 ≤ sizeLine; omega, fun p1 f1 => ?_⟩
  refine ⟨c, p1, _, _, rfl, rfl, SqL.of ((Same.new f1) _ _ ec3), SqL.of upd_same, by rw [List.length_map]; show xs.length + 1 ≤ sizeLine; omega, fun p2 f2 => ?_⟩
  refine ⟨ln, _, _, rfl, rfl, ((Same.new f1).trans (Same.new f2)) _ _ el3, by rw [List.length_map]; omega, ?_⟩
  obtain ⟨S4, el4, CD4, nd4, D4⟩ := corn_push (ys := xs ++ [lo + (k : Int)]) (L := xs.map V.int ++ [.int (lo + (k : Int))]) fn S3 el3 CD3 nd3 D3 f1 f2 (by rw [List.map_append]; rfl)
  refine ⟨_, _, rfl, S4, el4, ?_, nd4, D4⟩
  rw [List.range_succ, List.map_append, ← List.append_assoc]
  exact CD4
end
end K20
set_option Elab.async false
set_option linter.all false
set_option maxRecDepth 100000
set_option maxHeartbeats 4000000
namespace K20
open PySem L2 RF
seal L2.PE L2.PA L2.PS L2.PSs L2.PT L2.PG L2.PI L2.PK L2.PO L2.PEx L2.PSx L2.PSxs L2.PH L2.PW L2.PGs L2.OpR L2.CallR L2.SlR L2.IxR
section
variable {P : Program} {w : World} {K : PySem.W.Frag} {mg : Str → Option Value} {base : Heap} {cR cT cI cG : Addr}
theorem gb_of {kept : List Int} (h : kept = [7] ∨ kept = [5, 3] ∨ kept = [11, 7] ∨ kept = [8, 3, 5]) : GoodBase kept [23] := by
  rcases h with rfl | rfl | rfl | rfl <;> exact ⟨by decide, by decide, by decide, by decide, by simp [List.pairwise_cons, Cop] <;> decide, by decide⟩
noncomputable def badB (kept : List Int) (rs : List PR) (ws : List Int) : Bool := !(walkN noneF ws rs).all fun n => decide (Fits kept n)
theorem bad_no {kept : List Int} {rs : List PR} {ws : List Int} (h : ∀ n ∈ walkN noneF ws rs, Fits kept n) : badB kept rs ws = false := by
  unfold badB
  rw [List.all_eq_true.mpr fun n hn => decide_eq_true (h n hn)]; rfl
theorem bad_yes {kept : List Int} {rs : List PR} {ws : List Int} {j : Nat} (h : FirstBad kept (walkN noneF ws rs) j) : badB kept rs ws = true := by
  unfold badB
  cases e : (walkN noneF ws rs).all fun n => decide (Fits kept n) with
  | false => rfl
  | true => exact (h.not fun n hn => of_decide_eq_true (List.all_eq_true.mp e n hn)).elim
noncomputable def unV : V → Int
  | .int n => n
  | _ => 0
theorem unV_map (ws : List Int) : (ws.map V.int).map unV = ws := by
  rw [List.map_map]
  exact List.map_id'' (fun _ => rfl) ws
noncomputable def badP (H : Hp) (kept : List Int) (rs : List PR) : V → Bool
  | .ref a => match H a with
    | some (.lst xs) => badB kept rs (xs.map unV)
    | _ => false
  | _ => false
theorem badP_at {H : Hp} {kept : List Int} {rs : List PR} {a : Addr} {ws : List Int} (h : H a = some (.lst (ws.map V.int))) : badP H kept rs (.ref a) = badB kept rs ws := by
  simp only [badP, h]
  rw [unV_map]
theorem corn_tail {H : Hp} {c : Addr} {cs : List Addr} {x : List Int} {xs : List (List Int)} (h : CornAt H (c :: cs) (x :: xs)) : H c = some (.lst (x.map V.int)) ∧ CornAt H cs xs :=
  ⟨h.2 0 c x rfl rfl, Nat.succ.inj h.1, fun i c' x' e1 e2 => h.2 (i + 1) c' x' e1 e2⟩
theorem corn_cons {H : Hp} {c : Addr} {cs : List Addr} {x : List Int} {xs : List (List Int)} (h : H c = some (.lst (x.map V.int))) (h' : CornAt H cs xs) : CornAt H (c :: cs) (x :: xs) :=
  ⟨congrArg (· + 1) h'.1, fun i c' x' e1 e2 => by
    cases i with
    | zero => cases e1; cases e2; exact h
    | succ i => exact h'.2 i c' x' e1 e2⟩
theorem corn_filt {H : Hp} {kept : List Int} {rs : List PR} : ∀ {cs : List Addr} {xs : List (List Int)}, CornAt H cs xs → ∃ bs : List Addr, ((cs.map V.ref).filter (badP H kept rs)).map (fun x => x) = bs.map V.ref ∧ CornAt H bs (xs.filter (badB kept rs)) ∧ bs.length ≤ cs.length
  | [], [], h => ⟨[], rfl, h, Nat.le_refl _⟩
  | [], _ :: _, h => by cases h.1
  | _ :: _, [], h => by cases h.1
  | c :: cs, x :: xs, h => by
    obtain ⟨hc, ht⟩ := corn_tail h
    obtain ⟨bs, e, CB, bl⟩ := corn_filt (kept := kept) (rs := rs) ht
    have ep := badP_at (kept := kept) (rs := rs) hc
    rw [List.map_cons, List.filter_cons, List.filter_cons, ep]
    cases hb : badB kept rs x with
    | true => rw [if_pos rfl, if_pos rfl]; exact ⟨c :: bs, by rw [List.map_cons, e]; rfl, corn_cons hc CB, Nat.succ_le_succ bl⟩
    | false => rw [if_neg Bool.false_ne_true, if_neg Bool.false_ne_true]; exact ⟨bs, e, CB, Nat.le_succ_of_le bl⟩
theorem ints_can : ∀ a : List Int, PyData.canLayAll0 (a.map PyData.int) = true
  | [] => rfl
  | n :: r => by simp [PyData.canLayAll0, PyData.canLay0, ints_can r]
theorem ints_dep : ∀ a : List Int, PyData.depthAll (a.map PyData.int) = 0
  | [] => rfl
  | n :: r => by simp [PyData.depthAll, PyData.depth, ints_dep r]
theorem ints_flat (a : List Int) : (a.map PyData.int).all flatD = true := by
  rw [List.all_eq_true]; intro x hx; obtain ⟨n, _, rfl⟩ := List.mem_map.mp hx; rfl
noncomputable def lookD (z : Str) (c : List Int) (n : Int) : PyData := .tuple [.str z, .list (c.map PyData.int), .int n]
theorem look_eqv (z : Str) (c : List Int) (n : Int) : PyData.eqv (lookD z c n) (lookD z c n) = true := by
  have e : PyData.eqvAll (c.map PyData.int) (c.map PyData.int) = true := eqv_flat _ (ints_flat c)
  simp [lookD, PyData.eqv, PyData.eqvAll, e]
theorem look_shaped {z : Str} (h : PyData.strOk z = true) (c : List Int) (n : Int) : SeqAt.shaped (lookD z c n) = true := by
  have a := ints_dep c
  have d : PyData.depth (lookD z c n) ≤ 64 := by
    unfold lookD
    simp only [PyData.depth, PyData.depthAll] at a ⊢
    omega
  have b := ints_can c
  unfold SeqAt.shaped
  rw [decide_eq_true d]
  unfold lookD
  simp only [PyData.canLay0, PyData.canLayAll0]
  rw [b, h]
  rfl
noncomputable def intsD (ws : List Int) : PyData := .list (ws.map PyData.int)
theorem rdCorn {H : Hp} : ∀ {cs : List Addr} {xs : List (List Int)}, CornAt H cs xs → RdDs K H (cs.map V.ref) (xs.map intsD)
  | [], [], _ => .nil
  | [], _ :: _, h => by cases h.1
  | _ :: _, [], h => by cases h.1
  | c :: cs, x :: xs, h => .cons (.lst (SqL.of (corn_tail h).1) (RdDs.ints x)) (rdCorn (corn_tail h).2)
theorem corn_can : ∀ xs : List (List Int), PyData.canLayAll0 (xs.map intsD) = true
  | [] => rfl
  | x :: xs => by
    have a := ints_can x
    have b := corn_can xs
    simp only [List.map_cons, intsD, PyData.canLayAll0, PyData.canLay0] at a b ⊢
    rw [a, b]; rfl
theorem corn_dep : ∀ xs : List (List Int), PyData.depthAll (xs.map intsD) ≤ 1
  | [] => by simp [PyData.depthAll]
  | x :: xs => by
    have a := ints_dep x
    have b := corn_dep xs
    simp only [List.map_cons, intsD, PyData.depthAll, PyData.depth] at a b ⊢
    omega
theorem corn_shaped (xs : List (List Int)) : SeqAt.shaped (.list (xs.map intsD)) = true := by
  have a := corn_dep xs
  have d : PyData.depth (.list (xs.map intsD)) ≤ 64 := by
    simp only [PyData.depth] at a ⊢
    omega
  unfold SeqAt.shaped
  rw [decide_eq_true d]
  simp only [PyData.canLay0]
  rw [corn_can]; rfl
theorem corn_nil (xs : List (List Int)) : PyData.eqv (.list (xs.map intsD)) (.list []) = decide (xs = []) := by
  cases xs with
  | nil => rfl
  | cons x xs => rw [decide_eq_false (by intro z; cases z)]; rfl
theorem corn_any {xs : List (List Int)} {c : List Int} (h : c ∈ xs) : ((xs.map intsD).any fun e => PyData.eqv e (intsD c)) = true := by
  rw [List.any_eq_true]
  exact ⟨intsD c, List.mem_map_of_mem h, eqv_flat _ (ints_flat c)⟩
theorem Look.ok {kept : List Int} {rs : List PR} {z : Str} {c : List Int} {n : Int} (h : Look kept rs z c n) : PyData.strOk z = true := by
  cases h <;> decide +kernel
noncomputable abbrev s_law : Stmt := top 40
theorem sc_law : FnScope ["_law_script", "_law_draw", "_law_base", "_law_rows", "_law_found", "_law_some", "_law_bad"] ["_law_script"] (defScope s_law) := ⟨rfl, rfl, rfl, by decide +kernel, rfl, by decide +kernel, by decide +kernel⟩
theorem body_law (T : Txt K mg cR cT cI cG) (F__law_base_by : FnS P w K mg base "_law_base_by" ["_law_number"] 2 sp_base_by) (F__law_mixed : FnS P w K mg base "_law_mixed" ["_law_number", "_law_k"] 1 sp_mixed) (F__law_cell_at : FnS P w K mg base "_law_cell_at" ["_law_script", "_law_k"] 1 (sp_cell_at K)) (F__law_tidy_program : FnS P w K mg base "_law_tidy_program" ["_law_base", "_law_cells", "_law_style"] 4 sp_tprog)
    (F_looked : FnS P w K mg base "looked" ["base", "program"] 8 sp_looked) (F__law_whole : FnS P w K mg base "_law_whole" ["_law_found"] 1 sp_whole) (F__law_all_inputs : FnS P w K mg base "_law_all_inputs" ["_law_rows"] 1 sp_alli) (F__law_walked : FnS P w K mg base "_law_walked" ["_law_base", "_law_rows", "_law_inputs"] 2 sp_walked) :
    Body P w K mg base ["_law_script", "_law_draw", "_law_base", "_law_rows", "_law_found", "_law_some", "_law_bad"] "law" s_law 9 (sp_law K) := by
  intro f cdv A outer s H vs Q E hr h
  obtain ⟨_, rfl, l, ns0, rfl, hq, h63, k⟩ := h
  refine ⟨_, (pss_cons (ps_set (i := 1) sc_law.nd rfl (Or.inl rfl) (cFn F__law_mixed hr passes0 (ac (cFn F__law_cell_at hr passes0 (ac (pv 0) (ac pe_int pa_nil))) (ac pe_int pa_nil))))
      (pss_cons (ps_set (i := 2) sc_law.nd rfl (Or.inr rfl) (cFn F__law_base_by hr passes0 (ac (pv 1) pa_nil)))
      (pss_cutF (Gr) (ps_if (pt_cmpR op_gt (pe_op op_mod (pe_op op_fdiv (pv 1) pe_int) pe_int) pe_int (nomark _))
        (pss_one (ps_set (i := 2) sc_law.nd rfl (Or.inr rfl) (pe_tup (ac (pe_ix ix0L (pe_lst (ac (pe_tup (ac pe_int pa_nil)) (ac (pe_tup (ac pe_int (ac pe_int pa_nil))) (ac (pe_tup (ac pe_int (ac pe_int pa_nil))) (ac (pe_tup (ac pe_int (ac pe_int (ac pe_int pa_nil)))) pa_nil))))) (pe_op op_mod (pe_op op_fdiv (pv 1) pe_int) pe_int) (fun _ _ => rfl)) (ac (pe_tup (ac pe_int pa_nil)) pa_nil)))))
        pss_nil)
      (pss_cons (ps_set (i := 3) sc_law.nd rfl (Or.inr rfl) (cFn F__law_tidy_program hr passes0 (ac (pv 2) (ac (pe_slice sl_list (pv 0) (po_some pe_int) (po_some pe_int)) (ac (cFn F__law_mixed hr passes0 (ac (cFn F__law_cell_at hr passes0 (ac (pv 0) (ac pe_int pa_nil))) (ac pe_int pa_nil))) pa_nil)))))
      (pss_cons (ps_set (i := 4) sc_law.nd rfl (Or.inl rfl) (cFn F_looked hr passes0 (ac (pv 2) (ac (cTy call0list (by rfl) T.list PyProof.Rows.Boot.«list» (ac (pv 3) pa_nil)) pa_nil))))
      (pss_cons (ps_if (PW.pt (pw_or (pt_not (pt_val (cBi call_isi (by rfl) T.isinstance PyProof.Rows.Boot.«isinstance» (ac (pv 4) (ac (pe_ty rfl T.tuple PyProof.Rows.Boot.«tuple») pa_nil))))) (pw_or (pt_cmpR op_ne (cBi call0len (by rfl) T.len PyProof.Rows.Boot.«len» (ac (pv 4) pa_nil)) pe_int (nomark _)) (pw_or (pt_not (pt_val (cBi call_isi (by rfl) T.isinstance PyProof.Rows.Boot.«isinstance» (ac (pe_ix ix0T (pv 4) pe_int (fun _ _ => rfl)) (ac (pe_ty rfl T.list PyProof.Rows.Boot.«list») pa_nil))))) (pw_or1 (pt_not (pt_val (cFn F__law_whole hr passes0 (ac (pe_ix ix0T (pv 4) pe_int (fun _ _ => rfl)) pa_nil)))))))))
        (pss_one (ps_ret pe_bl))
        pss_nil)
      (pss_cons (ps_set (i := 5) sc_law.nd rfl (Or.inl rfl) (cFn F__law_all_inputs hr passes0 (ac (pv 3) pa_nil)))
      (pss_cons (ps_setF (i := 6) (lv := 1) (caps := [2, 3]) (N' := ["_law_inputs", "_law_base", "_law_rows"]) (xe := fun _ _ _ _ _ _ => False) (fun _ _ _ _ _ _ _ _ _ _ _ _ _ z => z.elim) sc_law.nd rfl (Or.inl rfl) rfl (CompOk.caps (sc := defScope s_law) rfl (by decide +kernel) (by decide +kernel) (by decide +kernel) rfl rfl (compcap2 rfl rfl rfl rfl rfl rfl)) (keep_name (by decide)) (pi_list (pv 5)) (fun _ _ _ _ => pg_name (i := 0) (show (["_law_inputs", "_law_base", "_law_rows"] : List Str).Nodup by decide +kernel) rfl (Or.inl rfl)) (fun _ _ _ _ => (pt_cmpR op_gt (pe_ix ix0T (cFn F__law_walked hr passes0 (ac (pv 1) (ac (pv 2) (ac (pv 0) pa_nil)))) pe_int (fun _ _ => rfl)) pe_int (nomark _))) (fun _ _ _ _ => (pv 0)))
      (pss_cons (ps_if (pt_cmpR (op_eqDK K hr.units) (pv 6) (pe_lst pa_nil) (nomark _))
        (pss_one (ps_ret (pe_cmpR (op_eqDK K hr.units) (pv 4) (pe_tup (ac pe_str (ac (pe_lst pa_nil) (ac pe_int pa_nil)))) (nomark _))))
        pss_nil)
      (pss_one (ps_ret (pe_and (pe_cmpR op_eq (pe_ix ix0T (pv 4) pe_int (fun _ _ => rfl)) pe_str (nomark _)) (pe_and (pe_cmpR (op_inDK K hr.units) (pe_ix ix0T (pv 4) pe_int (fun _ _ => rfl)) (pv 6) (by with_unfolding_all rfl)) (pe_one (pe_cmpR (op_eqDK K hr.units) (pe_ix ix0T (cFn F__law_walked hr passes0 (ac (pv 2) (ac (pv 3) (ac (pe_ix ix0T (pv 4) pe_int (fun _ _ => rfl)) pa_nil)))) pe_int (fun _ _ => rfl)) (pe_ix ix0T (pv 4) pe_int (fun _ _ => rfl)) (nomark _)))))))))))))))), ?_⟩
  try (set_option simprocs false in dsimp only [cxOf])
  have s300 : (300 : Nat) ≤ sizeLine := by decide
  refine ⟨_, rfl, _, _, rfl, l, ns0, 0, rfl, rfl, hq, by decide, fun c0 => ⟨_, _, rfl, c0, 0, rfl, rfl, by decide, by decide, fun n8 n80 _ => ?_⟩⟩
  refine ⟨_, rfl, _, rfl, n8, rfl, fun kept spare tb H1 gb S1 htb hb => ?_⟩
  have B1 : Bas H1 (.ref tb) kept spare := ⟨⟨tb, rfl, hb⟩, gb⟩
  refine ⟨fun σ H' => ∃ (tb : Addr) (kept spare : List Int), σ = [some (.ref l), some (.int n8), some (.ref tb), none, none, none, none] ∧ Same H H' ∧ Bas H' (.ref tb) kept spare, ?_, ?_⟩
  rotate_left
  · refine ⟨_, rfl, _, _, rfl, rfl, ⟨by decide, by decide⟩, _, _, rfl, rfl, (by show (0 : Int) < 3; decide), _, _, rfl, rfl, _, rfl, iteE (fun _ => ?_) (fun _ => ⟨tb, kept, spare, rfl, S1, B1⟩)⟩
    refine ⟨(by show 1 ≤ sizeLine; decide), fun t1 f1 => ⟨(by show 2 ≤ sizeLine; decide), fun t2 f2 => ⟨(by show 2 ≤ sizeLine; decide), fun t3 f3 => ⟨(by show 3 ≤ sizeLine; decide), fun t4 f4 => ⟨(by show 4 ≤ sizeLine; decide), fun tl fl => ?_⟩⟩⟩⟩⟩
    have N1 := Same.new (o := .tup [.int 7]) f1
    have N2 := Same.new (o := .tup [.int 5, .int 3]) f2
    have N3 := Same.new (o := .tup [.int 11, .int 7]) f3
    have N4 := Same.new (o := .tup [.int 8, .int 3, .int 5]) f4
    have N5 := Same.new (o := .lst [.ref t1, .ref t2, .ref t3, .ref t4]) fl
    have e1 := (N2.trans (N3.trans (N4.trans N5))) _ _ (upd_same : upd H1 t1 (.tup [.int 7]) t1 = _)
    have e2 := (N3.trans (N4.trans N5)) _ _ (upd_same : upd (upd H1 t1 (.tup [.int 7])) t2 (.tup [.int 5, .int 3]) t2 = _)
    have e3 := (N4.trans N5) _ _ (upd_same : upd (upd (upd H1 t1 (.tup [.int 7])) t2 (.tup [.int 5, .int 3])) t3 (.tup [.int 11, .int 7]) t3 = _)
    have e4 := N5 _ _ (upd_same : upd (upd (upd (upd H1 t1 (.tup [.int 7])) t2 (.tup [.int 5, .int 3])) t3 (.tup [.int 11, .int 7])) t4 (.tup [.int 8, .int 3, .int 5]) t4 = _)
    have SN := S1.trans (N1.trans (N2.trans (N3.trans (N4.trans N5))))
    have h4 : ∀ i : Int, 0 ≤ i → i < 4 → ∃ (t : Addr) (kk : List Int), (kk = [7] ∨ kk = [5, 3] ∨ kk = [11, 7] ∨ kk = [8, 3, 5]) ∧ atI [V.ref t1, V.ref t2, V.ref t3, V.ref t4] i = some (.ref t) ∧ upd (upd (upd (upd (upd H1 t1 (.tup [.int 7])) t2 (.tup [.int 5, .int 3])) t3 (.tup [.int 11, .int 7])) t4 (.tup [.int 8, .int 3, .int 5])) tl (.lst [.ref t1, .ref t2, .ref t3, .ref t4]) t = some (.tup (kk.map V.int)) := fun i i0 i4 => by
      have : i = 0 ∨ i = 1 ∨ i = 2 ∨ i = 3 := by omega
      rcases this with rfl | rfl | rfl | rfl
      · exact ⟨t1, [7], .inl rfl, rfl, e1⟩
      · exact ⟨t2, [5, 3], .inr (.inl rfl), rfl, e2⟩
      · exact ⟨t3, [11, 7], .inr (.inr (.inl rfl)), rfl, e3⟩
      · exact ⟨t4, [8, 3, 5], .inr (.inr (.inr rfl)), rfl, e4⟩
    obtain ⟨t, kk, hkk, hat, et⟩ := h4 (n8 / 3000 % 4) (by omega) (by omega)
    have etl : upd (upd (upd (upd (upd H1 t1 (.tup [.int 7])) t2 (.tup [.int 5, .int 3])) t3 (.tup [.int 11, .int 7])) t4 (.tup [.int 8, .int 3, .int 5])) tl (.lst [.ref t1, .ref t2, .ref t3, .ref t4]) tl = some (.lst [.ref t1, .ref t2, .ref t3, .ref t4]) := upd_same
    generalize upd (upd (upd (upd (upd H1 t1 (.tup [.int 7])) t2 (.tup [.int 5, .int 3])) t3 (.tup [.int 11, .int 7])) t4 (.tup [.int 8, .int 3, .int 5])) tl (.lst [.ref t1, .ref t2, .ref t3, .ref t4]) = H2 at *
    refine ⟨_, rfl, _, _, rfl, rfl, ⟨by decide, by decide⟩, _, _, rfl, rfl, (by show (0 : Int) < 4; decide), tl, _, _, _, rfl, rfl, SqL.of etl, hat, (by show 1 ≤ sizeLine; decide), fun t5 f5 => ⟨(by show 2 ≤ sizeLine; decide), fun tn fn => ?_⟩⟩
    have N6 := Same.new (o := .tup [.int 23]) f5
    have N7 := Same.new (o := .tup [.ref t, .ref t5]) fn
    exact ⟨tn, kk, [23], rfl, SN.trans (N6.trans N7), ⟨tn, rfl, t, t5, upd_same, (N6.trans N7) _ _ et, N7 _ _ upd_same⟩, gb_of hkk⟩
  clear B1 hb htb gb S1 tb kept spare
  rintro _ H2 ⟨tb, kept, spare, rfl, S2, B2⟩
  refine ⟨_, rfl, _, rfl, _, rfl, _, rfl, l, _, rfl, S2.seq hq, fun p1 g1 => ?_⟩
  rw [cut_mid (by decide) (by decide)]
  have N1 := Same.new (o := .lst (((ns0.take (32 : Int).toNat).drop (2 : Int).toNat).map V.int)) g1
  have ec : upd H2 p1 (.lst (((ns0.take (32 : Int).toNat).drop (2 : Int).toNat).map V.int)) p1 = some (.lst (((ns0.take (32 : Int).toNat).drop (2 : Int).toNat).map V.int)) := upd_same
  have lc : ((ns0.take (32 : Int).toNat).drop (2 : Int).toNat).length ≤ 60 := by
    rw [List.length_drop, List.length_take]
    show min 32 _ - 2 ≤ 60
    omega
  refine ⟨_, rfl, _, _, rfl, l, ns0, 1, rfl, rfl, (S2.trans N1).seq hq, by decide, fun c1 => ⟨_, _, rfl, c1, 1, rfl, rfl, by decide, by decide, fun st st0 _ => ⟨_, _, _, rfl, kept, spare, p1, _, st, B2.up N1, rfl, ec, lc, rfl, st0, fun lr as rs sp H3 S3 er R r60 hm ok nd n4 nar ti => ?_⟩⟩⟩
  have B3 := B2.up (N1.trans S3)
  have hB := fold_small r60 hm
  have al : as.length ≤ 60 := by rw [R.len]; exact r60
  obtain ⟨⟨tb', hz, hbb⟩, gb⟩ := id B3
  cases hz
  refine ⟨_, rfl, _, rfl, lr, _, rfl, .inl (SqL.of er), fun lh fh => ?_⟩
  have M1 := Same.new (o := .lst (as.map V.ref)) fh
  refine ⟨_, _, rfl, kept, spare, lh, as, rs, B3.up M1, rfl, upd_same, R.up M1, r60, ok, hB, nd, by omega, fun tf ff z c n H4 S4 etf eff fff c6 LK => ?_⟩
  have S34 := M1.trans S4
  have zok := LK.ok
  refine ⟨_, rfl, _, _, _, _, rfl, TyOf.tup etf, kit_tt K, _, rfl, iteF ?_⟩
  refine ⟨_, rfl, tf, _, rfl, .inr (SqT.of etf), rfl, _, rfl, iteF ?_⟩
  refine ⟨_, rfl, tf, _, _, _, rfl, rfl, SqT.of etf, rfl, _, _, _, _, rfl, TyOf.lst eff, kit_ll K, _, rfl, iteF ?_⟩
  refine ⟨_, rfl, tf, _, _, _, rfl, rfl, SqT.of etf, rfl, _, rfl, n, rfl, _, rfl, iteF ?_⟩
  refine ⟨_, rfl, _, rfl, lr, as, rs, rfl, S34 _ _ er, R.up S34, r60, ok, n4, nar, fun ls cs H5 S5 es CS cl => ?_⟩
  have S35 := S34.trans S5
  have B5 := B3.up S35
  have er5 := S35 _ _ er
  have R5 := R.up S35
  refine ⟨_, rfl, ls, rfl, ⟨_, SqL.of es⟩, comp_LF (K := K) (SqL.of es) (by rw [List.length_map]; omega) (badP H5 kept rs) (fun x => x) ?_ ?_⟩
  · intro x hx H' Q' R' S yes no
    obtain ⟨a, ha, rfl⟩ := List.mem_map.mp hx
    obtain ⟨i, hi⟩ := List.getElem?_of_mem ha
    obtain ⟨ws, hws, ea⟩ := CS.at hi
    have ep := badP_at (kept := kept) (rs := rs) ea
    have G := allI_good (List.mem_of_getElem? hws)
    refine ⟨_, rfl, _, rfl, _, rfl, _, _, _, rfl, kept, spare, lr, a, as, rs, ws, B5.up S, rfl, S _ _ er5, R5.up S, r60, ok, rfl, S _ _ ea, G.1, fun j fb t lt H8 S8 e8 => ?_, fun fa t lt ps H8 S8 e8 TF => ?_⟩
    · refine ⟨t, _, _, _, rfl, rfl, SqT.of e8, rfl, _, _, rfl, rfl, _, rfl, iteTe (decide_eq_true (by omega)) ?_⟩
      exact ⟨_, rfl, yes (by rw [ep]; exact bad_yes fb) _ S8⟩
    · refine ⟨t, _, _, _, rfl, rfl, SqT.of e8, rfl, _, _, rfl, rfl, _, rfl, iteFe (decide_eq_false (by omega)) ?_⟩
      exact no (by rw [ep]; exact bad_no fa) _ S8
  intro lb H6 flb S6 elb
  obtain ⟨bs, eb, CB, bl⟩ := corn_filt (kept := kept) (rs := rs) CS
  rw [eb] at elb
  have CB := CB.up S6
  have S36 := S35.trans S6
  have S46 := S5.trans S6
  have etf6 := S46 _ _ etf
  have eff6 := S46 _ _ eff
  generalize hys : (allI (insOf rs)).filter (badB kept rs) = ys at CB
  refine ⟨_, rfl, by decide, fun p fp => ⟨_, _, .lst (SqL.of ((Same.new fp) _ _ elb)) (rdCorn (CB.up (Same.new fp))), .lst (SqL.of upd_same) .nil, corn_shaped _, by decide +kernel, _, rfl, ?_⟩⟩
  rw [corn_nil]
  have N := Same.new (o := .lst []) fp
  have S37 := S36.trans N
  have etf7 := N _ _ etf6
  have eff7 := N _ _ eff6
  have elb7 := N _ _ elb
  have CB7 := CB.up N
  generalize upd H6 p (.lst []) = H7 at *
  cases LK with
  | opn hne hc => exact absurd (tidy_fits ti hc) hne
  | fits hf =>
    have hnil : ys = [] := by
      rw [← hys, List.filter_eq_nil_iff]
      intro ws hws
      rw [bad_no (fit_walk ok (allI_good hws) hf)]
      exact Bool.false_ne_true
    refine iteTe (decide_eq_true hnil) ⟨_, rfl, by decide, fun p2 f2 => ⟨(by show 3 ≤ sizeLine; decide), fun p3 f3 => ?_⟩⟩
    have M2 := Same.new (o := .lst []) f2
    have M3 := Same.new (o := .tup [.str "fits", .ref p2, .int 0]) f3
    refine ⟨lookD "fits" [] 0, lookD "fits" [] 0, .tup (SqT.of ((M2.trans M3) _ _ etf7)) (.cons (.str _) (.cons (.lst (SqL.of ((M2.trans M3) _ _ eff7)) (RdDs.ints [])) (.cons (.int _) .nil))), .tup (SqT.of upd_same) (.cons (.str _) (.cons (.lst (SqL.of (M3 _ _ upd_same)) .nil) (.cons (.int _) .nil))), look_shaped (by decide +kernel) _ _, look_shaped (by decide +kernel) _ _, ?_⟩
    rw [look_eqv]
    exact k _
  | not hne t _ j h1 h2 h3 =>
    have cin : c ∈ ys := by
      rw [← hys]
      exact List.mem_filter.mpr ⟨corner_all (ins_ord ok) c (List.mem_of_getElem? h1), bad_yes h2⟩
    have hnn : ¬ ys = [] := fun e => by rw [e] at cin; cases cin
    have G := corner_good ok h1
    refine iteFe (decide_eq_false hnn) ⟨_, rfl, tf, _, _, _, rfl, rfl, SqT.of etf7, rfl, rfl, _, rfl, iteTe (decide_eq_true rfl) ?_⟩
    refine ⟨_, rfl, tf, _, _, _, rfl, rfl, SqT.of etf7, rfl, _, rfl, intsD c, ys.map intsD, .lst (SqL.of eff7) (RdDs.ints c), .lst (SqL.of elb7) (rdCorn CB7), ?_, ?_, corn_can ys, ?_⟩
    · have a := ints_can c
      simp only [intsD, PyData.canLay0]
      rw [a]
    · have a := ints_dep c
      simp only [intsD, PyData.depth] at a ⊢
      omega
    rw [corn_any cin]
    refine ⟨_, rfl, iteT ?_⟩
    refine ⟨_, rfl, _, rfl, _, rfl, tf, _, _, _, rfl, rfl, SqT.of etf7, rfl, _, _, _, rfl, kept, spare, lr, ff, as, rs, c, B3.up S37, rfl, S37 _ _ er, R.up S37, r60, ok, rfl, eff7, G.1, fun j' fb t lt H8 S8 e8 => ?_, fun fa => (h2.not fa).elim⟩
    have hj := fb.uniq h2
    subst hj
    refine ⟨t, _, _, _, rfl, rfl, SqT.of e8, rfl, _, rfl, tf, _, _, _, rfl, rfl, SqT.of (S8 _ _ etf7), rfl, .int ((j' : Int) + 1), .int ((j' : Int) + 1), .int _, .int _, rfl, rfl, ?_⟩
    rw [show PyData.eqv (.int ((j' : Int) + 1)) (.int ((j' : Int) + 1)) = true by simp [PyData.eqv]]
    exact k _
end
end K20
set_option Elab.async false
set_option linter.all false
set_option maxRecDepth 100000
set_option maxHeartbeats 4000000
namespace K20
open PySem L2 RF
seal L2.PE L2.PA L2.PS L2.PSs L2.PT L2.PG L2.PI L2.PK L2.PO L2.PEx L2.PSx L2.PSxs L2.PH L2.PW L2.PGs L2.OpR L2.CallR L2.SlR L2.IxR
section
variable {P : Program} {w : World} {K : PySem.W.Frag} {mg : Str → Option Value} {base : Heap} {cR cT cI cG : Addr}
noncomputable def clsAt (s : Stmt) (i : Nat) : Stmt := match s with
  | .ClassDef _ _ _ body _ _ _ _ _ _ _ => body.getD i (.Pass ⟨0, 0, 0, 0⟩)
  | _ => s
noncomputable abbrev s_init : Stmt := clsAt (top 4) 0
theorem sc_init : FnScope ["self", "row"] ["self", "row"] (defScope s_init) := ⟨rfl, rfl, rfl, by decide +kernel, rfl, by decide +kernel, by decide +kernel⟩
theorem ok_init {fI : Addr} {fd : FuncData} (F : Fun K "__init__" "RowTooGreat.__init__" s_init fI fd) (G : ExcF K cG "row") : FnOk P w K mg base (CX1 P w) 1 fI fd ["self", "row"] (spInit cG "row") := by
  refine F.okX sc_init (fun vs H Q E h => by obtain ⟨_, _, rfl, _⟩ := h; rfl) fun cdv A outer s H vs Q E hr h => ?_
  obtain ⟨_, _, rfl, e, rfl, he, q⟩ := h
  refine ⟨_, (pss_one (ps_exf (pv 0) (pv 1) rfl)), ?_⟩
  exact ⟨_, rfl, _, rfl, e, cG, rfl, he, G, fun d hd => q d hd⟩
theorem rowI {fI : Addr} {oc : Value} {od an : Option Addr} {osl : Array (Option Value)} {kV doc pm cdv ct : Value} (T : Txt K mg cR cT cI cG) (G : ExcF K cG "row") (hq : excInI K cG fI bmV "ValueError.__new__" = true) (hfn : PySem.W.isFn K (.ref fI) = true)
    (l : K.lookup fI = some ⟨oc, od, .func (PySem.W.fnOf "__init__" "RowTooGreat.__init__" (defArgs s_init) (defBody s_init) (defScope s_init) .none kV doc pm an cdv ct), osl⟩) (c : PySem.W.codeIn K cdv "RowTooGreat.__init__" = true) (kp : PySem.W.keepIn K (.ref fI) = true) : RowI P w K mg base "RowTooGreat" cG "row" 1 :=
  ⟨fI, _, "row", hq, T.RowTooGreat, hfn, ok_init (fun_mk l c kp) G, .all fun us hl => by
    match us, hl with
    | [a, b], _ => rfl⟩
end
end K20
set_option Elab.async false
set_option linter.all false
set_option maxRecDepth 100000
set_option maxHeartbeats 4000000
namespace K20
open PySem L2 RF
theorem all_mk {l : PySem.W.OpenLaw} {w : World} {K : PySem.W.Frag} {h : Heap} {mg : Str → Option Value} {fa : Addr} (X : K.In h) (G : h.Ns mainGlobals mg) (hfa : mg "law" = some (.ref fa))
    {f0 : Addr} {od0 an0 : Option Addr} {sl0 : Array (Option Value)} {oc0 kV0 dc0 pm0 cd0 ct0 : Value}
    {f1 : Addr} {od1 an1 : Option Addr} {sl1 : Array (Option Value)} {oc1 kV1 dc1 pm1 cd1 ct1 : Value}
    {f2 : Addr} {od2 an2 : Option Addr} {sl2 : Array (Option Value)} {oc2 kV2 dc2 pm2 cd2 ct2 : Value}
    {f3 : Addr} {od3 an3 : Option Addr} {sl3 : Array (Option Value)} {oc3 kV3 dc3 pm3 cd3 ct3 : Value}
    {f4 : Addr} {od4 an4 : Option Addr} {sl4 : Array (Option Value)} {oc4 kV4 dc4 pm4 cd4 ct4 : Value}
    {f5 : Addr} {od5 an5 : Option Addr} {sl5 : Array (Option Value)} {oc5 kV5 dc5 pm5 cd5 ct5 : Value}
    {f6 : Addr} {od6 an6 : Option Addr} {sl6 : Array (Option Value)} {oc6 kV6 dc6 pm6 cd6 ct6 : Value}
    {f7 : Addr} {od7 an7 : Option Addr} {sl7 : Array (Option Value)} {oc7 kV7 dc7 pm7 cd7 ct7 : Value}
    {f8 : Addr} {od8 an8 : Option Addr} {sl8 : Array (Option Value)} {oc8 kV8 dc8 pm8 cd8 ct8 : Value}
    {f9 : Addr} {od9 an9 : Option Addr} {sl9 : Array (Option Value)} {oc9 kV9 dc9 pm9 cd9 ct9 : Value}
    {f10 : Addr} {od10 an10 : Option Addr} {sl10 : Array (Option Value)} {oc10 kV10 dc10 pm10 cd10 ct10 : Value}
    {f11 : Addr} {od11 an11 : Option Addr} {sl11 : Array (Option Value)} {oc11 kV11 dc11 pm11 cd11 ct11 : Value}
    {f12 : Addr} {od12 an12 : Option Addr} {sl12 : Array (Option Value)} {oc12 kV12 dc12 pm12 cd12 ct12 : Value}
    {f13 : Addr} {od13 an13 : Option Addr} {sl13 : Array (Option Value)} {oc13 kV13 dc13 pm13 cd13 ct13 : Value}
    {f14 : Addr} {od14 an14 : Option Addr} {sl14 : Array (Option Value)} {oc14 kV14 dc14 pm14 cd14 ct14 : Value}
    {f15 : Addr} {od15 an15 : Option Addr} {sl15 : Array (Option Value)} {oc15 kV15 dc15 pm15 cd15 ct15 : Value}
    {f16 : Addr} {od16 an16 : Option Addr} {sl16 : Array (Option Value)} {oc16 kV16 dc16 pm16 cd16 ct16 : Value}
    {f17 : Addr} {od17 an17 : Option Addr} {sl17 : Array (Option Value)} {oc17 kV17 dc17 pm17 cd17 ct17 : Value}
    {f18 : Addr} {od18 an18 : Option Addr} {sl18 : Array (Option Value)} {oc18 kV18 dc18 pm18 cd18 ct18 : Value}
    {f19 : Addr} {od19 an19 : Option Addr} {sl19 : Array (Option Value)} {oc19 kV19 dc19 pm19 cd19 ct19 : Value}
    {f20 : Addr} {od20 an20 : Option Addr} {sl20 : Array (Option Value)} {oc20 kV20 dc20 pm20 cd20 ct20 : Value}
    {f21 : Addr} {od21 an21 : Option Addr} {sl21 : Array (Option Value)} {oc21 kV21 dc21 pm21 cd21 ct21 : Value}
    {f22 : Addr} {od22 an22 : Option Addr} {sl22 : Array (Option Value)} {oc22 kV22 dc22 pm22 cd22 ct22 : Value}
    {f23 : Addr} {od23 an23 : Option Addr} {sl23 : Array (Option Value)} {oc23 kV23 dc23 pm23 cd23 ct23 : Value}
    {f24 : Addr} {od24 an24 : Option Addr} {sl24 : Array (Option Value)} {oc24 kV24 dc24 pm24 cd24 ct24 : Value}
    {f25 : Addr} {od25 an25 : Option Addr} {sl25 : Array (Option Value)} {oc25 kV25 dc25 pm25 cd25 ct25 : Value}
    {f26 : Addr} {od26 an26 : Option Addr} {sl26 : Array (Option Value)} {oc26 kV26 dc26 pm26 cd26 ct26 : Value}
    {f27 : Addr} {od27 an27 : Option Addr} {sl27 : Array (Option Value)} {oc27 kV27 dc27 pm27 cd27 ct27 : Value}
    {f28 : Addr} {od28 an28 : Option Addr} {sl28 : Array (Option Value)} {oc28 kV28 dc28 pm28 cd28 ct28 : Value}
    {f29 : Addr} {od29 an29 : Option Addr} {sl29 : Array (Option Value)} {oc29 kV29 dc29 pm29 cd29 ct29 : Value}
    {f30 : Addr} {od30 an30 : Option Addr} {sl30 : Array (Option Value)} {oc30 kV30 dc30 pm30 cd30 ct30 : Value}
    {f31 : Addr} {od31 an31 : Option Addr} {sl31 : Array (Option Value)} {oc31 kV31 dc31 pm31 cd31 ct31 : Value}
    {cR : Addr}
    {cT : Addr}
    {cI : Addr}
    {cG : Addr}
    {fI : Addr} {odI anI : Option Addr} {slI : Array (Option Value)} {ocI kVI dcI pmI cdI ctI : Value}
    (a0 : PySem.W.nsIn K mainGlobals "divisors_of" = some (some (.ref f0))) (l0 : K.lookup f0 = some ⟨oc0, od0, .func (PySem.W.fnOf "divisors_of" "divisors_of" (defArgs s_divisors_of) (defBody s_divisors_of) (defScope s_divisors_of) .none kV0 dc0 pm0 an0 cd0 ct0), sl0⟩) (c0 : PySem.W.codeIn K cd0 "divisors_of" = true) (k0 : PySem.W.keepIn K (.ref f0) = true)
    (a1 : PySem.W.nsIn K mainGlobals "product_of" = some (some (.ref f1))) (l1 : K.lookup f1 = some ⟨oc1, od1, .func (PySem.W.fnOf "product_of" "product_of" (defArgs s_product_of) (defBody s_product_of) (defScope s_product_of) .none kV1 dc1 pm1 an1 cd1 ct1), sl1⟩) (c1 : PySem.W.codeIn K cd1 "product_of" = true) (k1 : PySem.W.keepIn K (.ref f1) = true)
    (a2 : PySem.W.nsIn K mainGlobals "span_of" = some (some (.ref f2))) (l2 : K.lookup f2 = some ⟨oc2, od2, .func (PySem.W.fnOf "span_of" "span_of" (defArgs s_span_of) (defBody s_span_of) (defScope s_span_of) .none kV2 dc2 pm2 an2 cd2 ct2), sl2⟩) (c2 : PySem.W.codeIn K cd2 "span_of" = true) (k2 : PySem.W.keepIn K (.ref f2) = true)
    (a3 : PySem.W.nsIn K mainGlobals "lowest" = some (some (.ref f3))) (l3 : K.lookup f3 = some ⟨oc3, od3, .func (PySem.W.fnOf "lowest" "lowest" (defArgs s_lowest) (defBody s_lowest) (defScope s_lowest) .none kV3 dc3 pm3 an3 cd3 ct3), sl3⟩) (c3 : PySem.W.codeIn K cd3 "lowest" = true) (k3 : PySem.W.keepIn K (.ref f3) = true)
    (a4 : PySem.W.nsIn K mainGlobals "highest" = some (some (.ref f4))) (l4 : K.lookup f4 = some ⟨oc4, od4, .func (PySem.W.fnOf "highest" "highest" (defArgs s_highest) (defBody s_highest) (defScope s_highest) .none kV4 dc4 pm4 an4 cd4 ct4), sl4⟩) (c4 : PySem.W.codeIn K cd4 "highest" = true) (k4 : PySem.W.keepIn K (.ref f4) = true)
    (a5 : PySem.W.nsIn K mainGlobals "fits" = some (some (.ref f5))) (l5 : K.lookup f5 = some ⟨oc5, od5, .func (PySem.W.fnOf "fits" "fits" (defArgs s_fits) (defBody s_fits) (defScope s_fits) .none kV5 dc5 pm5 an5 cd5 ct5), sl5⟩) (c5 : PySem.W.codeIn K cd5 "fits" = true) (k5 : PySem.W.keepIn K (.ref f5) = true)
    (a6 : PySem.W.nsIn K mainGlobals "figure_of" = some (some (.ref f6))) (l6 : K.lookup f6 = some ⟨oc6, od6, .func (PySem.W.fnOf "figure_of" "figure_of" (defArgs s_figure_of) (defBody s_figure_of) (defScope s_figure_of) .none kV6 dc6 pm6 an6 cd6 ct6), sl6⟩) (c6 : PySem.W.codeIn K cd6 "figure_of" = true) (k6 : PySem.W.keepIn K (.ref f6) = true)
    (a7 : PySem.W.nsIn K mainGlobals "rests_of" = some (some (.ref f7))) (l7 : K.lookup f7 = some ⟨oc7, od7, .func (PySem.W.fnOf "rests_of" "rests_of" (defArgs s_rests_of) (defBody s_rests_of) (defScope s_rests_of) .none kV7 dc7 pm7 an7 cd7 ct7), sl7⟩) (c7 : PySem.W.codeIn K cd7 "rests_of" = true) (k7 : PySem.W.keepIn K (.ref f7) = true)
    (a8 : PySem.W.nsIn K mainGlobals "run" = some (some (.ref f8))) (l8 : K.lookup f8 = some ⟨oc8, od8, .func (PySem.W.fnOf "run" "run" (defArgs s_run) (defBody s_run) (defScope s_run) .none kV8 dc8 pm8 an8 cd8 ct8), sl8⟩) (c8 : PySem.W.codeIn K cd8 "run" = true) (k8 : PySem.W.keepIn K (.ref f8) = true)
    (a9 : PySem.W.nsIn K mainGlobals "values_of_inputs" = some (some (.ref f9))) (l9 : K.lookup f9 = some ⟨oc9, od9, .func (PySem.W.fnOf "values_of_inputs" "values_of_inputs" (defArgs s_values_of_inputs) (defBody s_values_of_inputs) (defScope s_values_of_inputs) .none kV9 dc9 pm9 an9 cd9 ct9), sl9⟩) (c9 : PySem.W.codeIn K cd9 "values_of_inputs" = true) (k9 : PySem.W.keepIn K (.ref f9) = true)
    (a10 : PySem.W.nsIn K mainGlobals "rows_of" = some (some (.ref f10))) (l10 : K.lookup f10 = some ⟨oc10, od10, .func (PySem.W.fnOf "rows_of" "rows_of" (defArgs s_rows_of) (defBody s_rows_of) (defScope s_rows_of) .none kV10 dc10 pm10 an10 cd10 ct10), sl10⟩) (c10 : PySem.W.codeIn K cd10 "rows_of" = true) (k10 : PySem.W.keepIn K (.ref f10) = true)
    (a11 : PySem.W.nsIn K mainGlobals "value_of" = some (some (.ref f11))) (l11 : K.lookup f11 = some ⟨oc11, od11, .func (PySem.W.fnOf "value_of" "value_of" (defArgs s_value_of) (defBody s_value_of) (defScope s_value_of) .none kV11 dc11 pm11 an11 cd11 ct11), sl11⟩) (c11 : PySem.W.codeIn K cd11 "value_of" = true) (k11 : PySem.W.keepIn K (.ref f11) = true)
    (a12 : PySem.W.nsIn K mainGlobals "done" = some (some (.ref f12))) (l12 : K.lookup f12 = some ⟨oc12, od12, .func (PySem.W.fnOf "done" "done" (defArgs s_done) (defBody s_done) (defScope s_done) .none kV12 dc12 pm12 an12 cd12 ct12), sl12⟩) (c12 : PySem.W.codeIn K cd12 "done" = true) (k12 : PySem.W.keepIn K (.ref f12) = true)
    (a13 : PySem.W.nsIn K mainGlobals "bounds" = some (some (.ref f13))) (l13 : K.lookup f13 = some ⟨oc13, od13, .func (PySem.W.fnOf "bounds" "bounds" (defArgs s_bounds) (defBody s_bounds) (defScope s_bounds) .none kV13 dc13 pm13 an13 cd13 ct13), sl13⟩) (c13 : PySem.W.codeIn K cd13 "bounds" = true) (k13 : PySem.W.keepIn K (.ref f13) = true)
    (a14 : PySem.W.nsIn K mainGlobals "bounds_of_row" = some (some (.ref f14))) (l14 : K.lookup f14 = some ⟨oc14, od14, .func (PySem.W.fnOf "bounds_of_row" "bounds_of_row" (defArgs s_bounds_of_row) (defBody s_bounds_of_row) (defScope s_bounds_of_row) .none kV14 dc14 pm14 an14 cd14 ct14), sl14⟩) (c14 : PySem.W.codeIn K cd14 "bounds_of_row" = true) (k14 : PySem.W.keepIn K (.ref f14) = true)
    (a15 : PySem.W.nsIn K mainGlobals "looked" = some (some (.ref f15))) (l15 : K.lookup f15 = some ⟨oc15, od15, .func (PySem.W.fnOf "looked" "looked" (defArgs s_looked) (defBody s_looked) (defScope s_looked) .none kV15 dc15 pm15 an15 cd15 ct15), sl15⟩) (c15 : PySem.W.codeIn K cd15 "looked" = true) (k15 : PySem.W.keepIn K (.ref f15) = true)
    (a16 : PySem.W.nsIn K mainGlobals "inputs_at_ends" = some (some (.ref f16))) (l16 : K.lookup f16 = some ⟨oc16, od16, .func (PySem.W.fnOf "inputs_at_ends" "inputs_at_ends" (defArgs s_inputs_at_ends) (defBody s_inputs_at_ends) (defScope s_inputs_at_ends) .none kV16 dc16 pm16 an16 cd16 ct16), sl16⟩) (c16 : PySem.W.codeIn K cd16 "inputs_at_ends" = true) (k16 : PySem.W.keepIn K (.ref f16) = true)
    (a17 : PySem.W.nsIn K mainGlobals "row_too_great" = some (some (.ref f17))) (l17 : K.lookup f17 = some ⟨oc17, od17, .func (PySem.W.fnOf "row_too_great" "row_too_great" (defArgs s_row_too_great) (defBody s_row_too_great) (defScope s_row_too_great) .none kV17 dc17 pm17 an17 cd17 ct17), sl17⟩) (c17 : PySem.W.codeIn K cd17 "row_too_great" = true) (k17 : PySem.W.keepIn K (.ref f17) = true)
    (a18 : PySem.W.nsIn K mainGlobals "_law_cell_at" = some (some (.ref f18))) (l18 : K.lookup f18 = some ⟨oc18, od18, .func (PySem.W.fnOf "_law_cell_at" "_law_cell_at" (defArgs s__law_cell_at) (defBody s__law_cell_at) (defScope s__law_cell_at) .none kV18 dc18 pm18 an18 cd18 ct18), sl18⟩) (c18 : PySem.W.codeIn K cd18 "_law_cell_at" = true) (k18 : PySem.W.keepIn K (.ref f18) = true)
    (a19 : PySem.W.nsIn K mainGlobals "_law_mixed" = some (some (.ref f19))) (l19 : K.lookup f19 = some ⟨oc19, od19, .func (PySem.W.fnOf "_law_mixed" "_law_mixed" (defArgs s__law_mixed) (defBody s__law_mixed) (defScope s__law_mixed) .none kV19 dc19 pm19 an19 cd19 ct19), sl19⟩) (c19 : PySem.W.codeIn K cd19 "_law_mixed" = true) (k19 : PySem.W.keepIn K (.ref f19) = true)
    (a20 : PySem.W.nsIn K mainGlobals "_law_whole" = some (some (.ref f20))) (l20 : K.lookup f20 = some ⟨oc20, od20, .func (PySem.W.fnOf "_law_whole" "_law_whole" (defArgs s__law_whole) (defBody s__law_whole) (defScope s__law_whole) .none kV20 dc20 pm20 an20 cd20 ct20), sl20⟩) (c20 : PySem.W.codeIn K cd20 "_law_whole" = true) (k20 : PySem.W.keepIn K (.ref f20) = true)
    (a21 : PySem.W.nsIn K mainGlobals "_law_base_by" = some (some (.ref f21))) (l21 : K.lookup f21 = some ⟨oc21, od21, .func (PySem.W.fnOf "_law_base_by" "_law_base_by" (defArgs s__law_base_by) (defBody s__law_base_by) (defScope s__law_base_by) .none kV21 dc21 pm21 an21 cd21 ct21), sl21⟩) (c21 : PySem.W.codeIn K cd21 "_law_base_by" = true) (k21 : PySem.W.keepIn K (.ref f21) = true)
    (a22 : PySem.W.nsIn K mainGlobals "_law_span" = some (some (.ref f22))) (l22 : K.lookup f22 = some ⟨oc22, od22, .func (PySem.W.fnOf "_law_span" "_law_span" (defArgs s__law_span) (defBody s__law_span) (defScope s__law_span) .none kV22 dc22 pm22 an22 cd22 ct22), sl22⟩) (c22 : PySem.W.codeIn K cd22 "_law_span" = true) (k22 : PySem.W.keepIn K (.ref f22) = true)
    (a23 : PySem.W.nsIn K mainGlobals "_law_figure" = some (some (.ref f23))) (l23 : K.lookup f23 = some ⟨oc23, od23, .func (PySem.W.fnOf "_law_figure" "_law_figure" (defArgs s__law_figure) (defBody s__law_figure) (defScope s__law_figure) .none kV23 dc23 pm23 an23 cd23 ct23), sl23⟩) (c23 : PySem.W.codeIn K cd23 "_law_figure" = true) (k23 : PySem.W.keepIn K (.ref f23) = true)
    (a24 : PySem.W.nsIn K mainGlobals "_law_name_by" = some (some (.ref f24))) (l24 : K.lookup f24 = some ⟨oc24, od24, .func (PySem.W.fnOf "_law_name_by" "_law_name_by" (defArgs s__law_name_by) (defBody s__law_name_by) (defScope s__law_name_by) .none kV24 dc24 pm24 an24 cd24 ct24), sl24⟩) (c24 : PySem.W.codeIn K cd24 "_law_name_by" = true) (k24 : PySem.W.keepIn K (.ref f24) = true)
    (a25 : PySem.W.nsIn K mainGlobals "_law_value" = some (some (.ref f25))) (l25 : K.lookup f25 = some ⟨oc25, od25, .func (PySem.W.fnOf "_law_value" "_law_value" (defArgs s__law_value) (defBody s__law_value) (defScope s__law_value) .none kV25 dc25 pm25 an25 cd25 ct25), sl25⟩) (c25 : PySem.W.codeIn K cd25 "_law_value" = true) (k25 : PySem.W.keepIn K (.ref f25) = true)
    (a26 : PySem.W.nsIn K mainGlobals "_law_walked" = some (some (.ref f26))) (l26 : K.lookup f26 = some ⟨oc26, od26, .func (PySem.W.fnOf "_law_walked" "_law_walked" (defArgs s__law_walked) (defBody s__law_walked) (defScope s__law_walked) .none kV26 dc26 pm26 an26 cd26 ct26), sl26⟩) (c26 : PySem.W.codeIn K cd26 "_law_walked" = true) (k26 : PySem.W.keepIn K (.ref f26) = true)
    (a27 : PySem.W.nsIn K mainGlobals "_law_small" = some (some (.ref f27))) (l27 : K.lookup f27 = some ⟨oc27, od27, .func (PySem.W.fnOf "_law_small" "_law_small" (defArgs s__law_small) (defBody s__law_small) (defScope s__law_small) .none kV27 dc27 pm27 an27 cd27 ct27), sl27⟩) (c27 : PySem.W.codeIn K cd27 "_law_small" = true) (k27 : PySem.W.keepIn K (.ref f27) = true)
    (a28 : PySem.W.nsIn K mainGlobals "_law_tidy_row" = some (some (.ref f28))) (l28 : K.lookup f28 = some ⟨oc28, od28, .func (PySem.W.fnOf "_law_tidy_row" "_law_tidy_row" (defArgs s__law_tidy_row) (defBody s__law_tidy_row) (defScope s__law_tidy_row) .none kV28 dc28 pm28 an28 cd28 ct28), sl28⟩) (c28 : PySem.W.codeIn K cd28 "_law_tidy_row" = true) (k28 : PySem.W.keepIn K (.ref f28) = true)
    (a29 : PySem.W.nsIn K mainGlobals "_law_tidy_program" = some (some (.ref f29))) (l29 : K.lookup f29 = some ⟨oc29, od29, .func (PySem.W.fnOf "_law_tidy_program" "_law_tidy_program" (defArgs s__law_tidy_program) (defBody s__law_tidy_program) (defScope s__law_tidy_program) .none kV29 dc29 pm29 an29 cd29 ct29), sl29⟩) (c29 : PySem.W.codeIn K cd29 "_law_tidy_program" = true) (k29 : PySem.W.keepIn K (.ref f29) = true)
    (a30 : PySem.W.nsIn K mainGlobals "_law_all_inputs" = some (some (.ref f30))) (l30 : K.lookup f30 = some ⟨oc30, od30, .func (PySem.W.fnOf "_law_all_inputs" "_law_all_inputs" (defArgs s__law_all_inputs) (defBody s__law_all_inputs) (defScope s__law_all_inputs) .none kV30 dc30 pm30 an30 cd30 ct30), sl30⟩) (c30 : PySem.W.codeIn K cd30 "_law_all_inputs" = true) (k30 : PySem.W.keepIn K (.ref f30) = true)
    (a31 : PySem.W.nsIn K mainGlobals "law" = some (some (.ref f31))) (l31 : K.lookup f31 = some ⟨oc31, od31, .func (PySem.W.fnOf "law" "law" (defArgs s_law) (defBody s_law) (defScope s_law) .none kV31 dc31 pm31 an31 cd31 ct31), sl31⟩) (c31 : PySem.W.codeIn K cd31 "law" = true) (k31 : PySem.W.keepIn K (.ref f31) = true)
    (z0 : PySem.W.nsIn K mainGlobals "len" = some none)
    (z1 : PySem.W.nsIn K mainGlobals "isinstance" = some none)
    (z2 : PySem.W.nsIn K mainGlobals "sorted" = some none)
    (z3 : PySem.W.nsIn K mainGlobals "list" = some none)
    (z4 : PySem.W.nsIn K mainGlobals "tuple" = some none)
    (z5 : PySem.W.nsIn K mainGlobals "int" = some none)
    (z6 : PySem.W.nsIn K mainGlobals "bool" = some none)
    (z7 : PySem.W.nsIn K mainGlobals "dict" = some none)
    (z8 : PySem.W.nsIn K mainGlobals "zip" = some none)
    (z9 : PySem.W.nsIn K mainGlobals "all" = some none)
    (z10 : PySem.W.nsIn K mainGlobals "min" = some none)
    (z11 : PySem.W.nsIn K mainGlobals "max" = some none)
    (z12 : PySem.W.nsIn K mainGlobals "range" = some none)
    (z13 : PySem.W.nsIn K mainGlobals "enumerate" = some none)
    (z14 : PySem.W.nsIn K mainGlobals "ValueError" = some none)
    (z15 : PySem.W.nsIn K mainGlobals "RestError" = some (some (.ref cR)))
    (z16 : PySem.W.nsIn K mainGlobals "TooGreat" = some (some (.ref cT)))
    (z17 : PySem.W.excIn K cT bmV "ValueError.__new__" = true)
    (z18 : PySem.W.nsIn K mainGlobals "BadInput" = some (some (.ref cI)))
    (z19 : PySem.W.excIn K cI bmV "ValueError.__new__" = true)
    (z20 : PySem.W.nsIn K mainGlobals "RowTooGreat" = some (some (.ref cG)))
    (xga_cG : PySem.W.findIn K (.ref cG) "__getattribute__" = some (some (.builtin "BaseException.__getattribute__")))
    (xgt_cG : PySem.W.findIn K (.ref cG) "__getattr__" = some none)
    (xcl_cG : PySem.W.findIn K (.ref cG) "__class__" = some (some (.builtin "object.__class__")))
    (xmo_cG : PySem.W.mroIn K cG (.type "object") = some true)
    (xmb_cG : PySem.W.mroIn K cG (.type "BaseException") = some true)
    (xr_cG : PySem.W.exmOne K (.ref cG) (.ref cG) = some true)
    (xsp : PySem.W.specialIn K (.builtin "object.__class__") "__get__" = some (some (.builtin "getset_descriptor.__get__")))
    (xtk : PySem.W.takesIn K (.builtin "object.__class__") = some true)
    (xsa : PySem.W.findIn K (.ref cG) "__setattr__" = some (some (.builtin "object.__setattr__")))
    (xna : PySem.W.findIn K (.ref cG) "row" = some none)
    (xhd : PySem.W.hasDictIn K cG = true)
    (xmr : ((PySem.W.clsIn K cG).any fun cd => cd.mro == .ref cG :: .ref cR :: bmV) = true)
    (xf : PySem.W.findIn K (.ref cG) "__init__" = some (some (.ref fI)))
    (xl : K.lookup fI = some ⟨ocI, odI, .func (PySem.W.fnOf "__init__" "RowTooGreat.__init__" (defArgs s_init) (defBody s_init) (defScope s_init) .none kVI dcI pmI anI cdI ctI), slI⟩)
    (xc : PySem.W.codeIn K cdI "RowTooGreat.__init__" = true)
    (xkp : PySem.W.keepIn K (.ref fI) = true)
    (xfn : PySem.W.isFn K (.ref fI) = true)
    (xin : excInI K cG fI bmV "ValueError.__new__" = true) :
    ∃ fd : FuncData, (∀ (s : Shared) (v : Value), BindsTo s fd ⟨[v], []⟩ [("_law_script", v)]) ∧ ∀ base : Heap, K.In base → base.Ns mainGlobals mg → FnOk l.prog w K mg base (CX1 l.prog w) 10 fa fd ["_law_script"] (sp_law K) := by
  have e := hfa.symm.trans (PySem.W.mg_of X G a31)
  cases e
  have T : Txt K mg cR cT cI cG := ⟨PySem.W.mg_none_of X G z0, PySem.W.mg_none_of X G z1, PySem.W.mg_none_of X G z2, PySem.W.mg_none_of X G z3, PySem.W.mg_none_of X G z4, PySem.W.mg_none_of X G z5, PySem.W.mg_none_of X G z6, PySem.W.mg_none_of X G z7, PySem.W.mg_none_of X G z8, PySem.W.mg_none_of X G z9, PySem.W.mg_none_of X G z10, PySem.W.mg_none_of X G z11, PySem.W.mg_none_of X G z12, PySem.W.mg_none_of X G z13, PySem.W.mg_none_of X G z14, PySem.W.mg_of X G z15, PySem.W.mg_of X G z16, z17, PySem.W.mg_of X G z18, z19, PySem.W.mg_of X G z20⟩
  have D0 : Def K mg "divisors_of" s_divisors_of := def_mk X G a0 l0 c0 k0
  have D1 : Def K mg "product_of" s_product_of := def_mk X G a1 l1 c1 k1
  have D2 : Def K mg "span_of" s_span_of := def_mk X G a2 l2 c2 k2
  have D3 : Def K mg "lowest" s_lowest := def_mk X G a3 l3 c3 k3
  have D4 : Def K mg "highest" s_highest := def_mk X G a4 l4 c4 k4
  have D5 : Def K mg "fits" s_fits := def_mk X G a5 l5 c5 k5
  have D6 : Def K mg "figure_of" s_figure_of := def_mk X G a6 l6 c6 k6
  have D7 : Def K mg "rests_of" s_rests_of := def_mk X G a7 l7 c7 k7
  have D8 : Def K mg "run" s_run := def_mk X G a8 l8 c8 k8
  have D9 : Def K mg "values_of_inputs" s_values_of_inputs := def_mk X G a9 l9 c9 k9
  have D10 : Def K mg "rows_of" s_rows_of := def_mk X G a10 l10 c10 k10
  have D11 : Def K mg "value_of" s_value_of := def_mk X G a11 l11 c11 k11
  have D12 : Def K mg "done" s_done := def_mk X G a12 l12 c12 k12
  have D13 : Def K mg "bounds" s_bounds := def_mk X G a13 l13 c13 k13
  have D14 : Def K mg "bounds_of_row" s_bounds_of_row := def_mk X G a14 l14 c14 k14
  have D15 : Def K mg "looked" s_looked := def_mk X G a15 l15 c15 k15
  have D16 : Def K mg "inputs_at_ends" s_inputs_at_ends := def_mk X G a16 l16 c16 k16
  have D17 : Def K mg "row_too_great" s_row_too_great := def_mk X G a17 l17 c17 k17
  have D18 : Def K mg "_law_cell_at" s__law_cell_at := def_mk X G a18 l18 c18 k18
  have D19 : Def K mg "_law_mixed" s__law_mixed := def_mk X G a19 l19 c19 k19
  have D20 : Def K mg "_law_whole" s__law_whole := def_mk X G a20 l20 c20 k20
  have D21 : Def K mg "_law_base_by" s__law_base_by := def_mk X G a21 l21 c21 k21
  have D22 : Def K mg "_law_span" s__law_span := def_mk X G a22 l22 c22 k22
  have D23 : Def K mg "_law_figure" s__law_figure := def_mk X G a23 l23 c23 k23
  have D24 : Def K mg "_law_name_by" s__law_name_by := def_mk X G a24 l24 c24 k24
  have D25 : Def K mg "_law_value" s__law_value := def_mk X G a25 l25 c25 k25
  have D26 : Def K mg "_law_walked" s__law_walked := def_mk X G a26 l26 c26 k26
  have D27 : Def K mg "_law_small" s__law_small := def_mk X G a27 l27 c27 k27
  have D28 : Def K mg "_law_tidy_row" s__law_tidy_row := def_mk X G a28 l28 c28 k28
  have D29 : Def K mg "_law_tidy_program" s__law_tidy_program := def_mk X G a29 l29 c29 k29
  have D30 : Def K mg "_law_all_inputs" s__law_all_inputs := def_mk X G a30 l30 c30 k30
  have FL := fun_mk (st := s_law) l31 c31 k31
  refine ⟨PySem.W.fnOf "law" "law" (defArgs s_law) (defBody s_law) (defScope s_law) .none kV31 dc31 pm31 an31 cd31 ct31, fun s v => .of_eq rfl, fun base _ _ => ?_⟩
  have GG : ExcF K cG "row" := ⟨⟨xga_cG, xgt_cG, xcl_cG, xsp, xtk, xmo_cG, xmb_cG⟩, xsa, xna, xhd, ⟨cR, xmr⟩⟩
  have GC : CW K cG := ⟨GG, xr_cG⟩
  have FRI := rowI (P := l.prog) (w := w) (base := base) T GG xin xfn xl xc xkp
  have F0 := ok_divisors_of (P := l.prog) (w := w) (base := base) D0
  have F1 := ok_product_of (P := l.prog) (w := w) (base := base) D1
  have F2 := ok_span_of D2 F1
  have F3 := ok_lowest D3 F2
  have F4 := ok_highest D4 F2
  have F5 := ok_fits D5 F3 F4
  have F7 := ok_rests_of D7 F0
  have F6 := ok_figure_of D6 T F5 F7
  have F10 := ok_rows_of (P := l.prog) (w := w) (base := base) D10
  have F9 := ok_vin D9 T F10
  have F12 := ok_done (P := l.prog) (w := w) (base := base) D12
  have F11 := ok_value_of D11 F12
  have F8 := ok_run D8 T FRI F9 F11 F5 F6
  have F14 := ok_row D14 T F12
  have F13 := ok_bounds D13 F14
  have F16 := ok_iae D16 F10
  have F17 := ok_rtg D17 T GC F8
  have F15 := ok_looked D15 T F13 F5 F16 F17
  have F18 := ok_cell_at (P := l.prog) (w := w) (base := base) D18 T
  have F19 := ok_mixed (P := l.prog) (w := w) (base := base) D19
  have F20 := ok_whole (P := l.prog) (w := w) (base := base) D20 T
  have F21 := ok_base_by D21 T F19
  have F22 := ok__law_span (P := l.prog) (w := w) (base := base) D22
  have F23 := ok_law_figure (P := l.prog) (w := w) (base := base) D23
  have F24 := ok_name (P := l.prog) (w := w) (base := base) D24
  have F25 := ok_value (P := l.prog) (w := w) (base := base) D25
  have F26 := ok_walked D26 T F25 F22 F23
  have F27 := ok_small D27 F22
  have F28 := ok_trow D28 T F27
  have F29 := ok_tprog D29 T F28 F19 F24
  have F30 := ok_alli (P := l.prog) (w := w) (base := base) D30 T
  exact FL.okX sc_law sp1_len (body_law T F21 F19 F18 F29 F15 F20 F30 F26 _)
theorem walk {l : PySem.W.OpenLaw} {q : Program} {loose : List Str} {XP : (Str → Option Value) → Heap → Prop} {YP : World → Heap → Prop} {d : DefRec} {K : Params → PySem.W.Frag} (hn : l.most = some 63) (hdf : d.params.defaults = [])
    (hY : ∀ (w : World) (h : Heap), YP w h → (K w.params).In h)
    (F : ∀ (w : World) (mg : Str → Option Value) (fa : Addr) (h : Heap), (K w.params).In h → h.Ns mainGlobals mg → mg d.name = some (.ref fa) →
      ∃ fd : FuncData, (∀ (s : Shared) (u : Value), BindsTo s fd ⟨[u], []⟩ [("_law_script", u)]) ∧ ∀ base : Heap, (K w.params).In base → base.Ns mainGlobals mg → FnOk l.prog w (K w.params) mg base (CX1 l.prog w) 10 fa fd ["_law_script"] (sp_law (K w.params))) :
    PySem.W.WalkO q loose XP YP l.row.toRowW d [] (fun f vs => PySem.call f vs) :=
  L2.walk_of (n := 63) (k := 10) (x := "_law_script") (CX := fun w => CX1 l.prog w) (sp := fun w => (sp_law (K w.params))) hn (by decide) hdf ⟨rfl, by decide, by decide⟩ hY F (fun _ _ a ns hl _ hS => ⟨_, rfl, a, ns, rfl, hS, hl, fun _ => rfl⟩) fun _ H s e s' => cx1_none H s e s'
end K20
open PySem PySem.W PyProof.Rows
theorem PySem.W.Fast.tw9408536939820726670 : True := trivial
theorem PySem.W.Fast.tw8727180778754908256 : True := trivial
theorem PySem.W.Fast.tw18110216048704694181 : True := trivial
theorem PySem.W.Fast.tw11815098841201498241 : True := trivial
set_option maxRecDepth 100000 in
set_option maxHeartbeats 0 in
theorem PySem.Challenge.cw_restfigures_k20_whole_tidy_programs_holds : PySem.Challenge.rw_restfigures_k20_whole_tidy_programs.Holds := by
  w_on; o_law; k_head; (case hw => w_witness2)
  k_fill
  refine K20.walk (l := PySem.Challenge.rw_restfigures_k20_whole_tidy_programs) rfl rfl (fun w h Y => PySem.W.kIn_of Y) ?F
  case F =>
    intro w mg fa h KX G hmg
    refine' K20.all_mk KX G hmg ?a0 ?l0 ?c0 ?k0 ?a1 ?l1 ?c1 ?k1 ?a2 ?l2 ?c2 ?k2 ?a3 ?l3 ?c3 ?k3 ?a4 ?l4 ?c4 ?k4 ?a5 ?l5 ?c5 ?k5 ?a6 ?l6 ?c6 ?k6 ?a7 ?l7 ?c7 ?k7 ?a8 ?l8 ?c8 ?k8 ?a9 ?l9 ?c9 ?k9 ?a10 ?l10 ?c10 ?k10 ?a11 ?l11 ?c11 ?k11 ?a12 ?l12 ?c12 ?k12 ?a13 ?l13 ?c13 ?k13 ?a14 ?l14 ?c14 ?k14 ?a15 ?l15 ?c15 ?k15 ?a16 ?l16 ?c16 ?k16 ?a17 ?l17 ?c17 ?k17 ?a18 ?l18 ?c18 ?k18 ?a19 ?l19 ?c19 ?k19 ?a20 ?l20 ?c20 ?k20 ?a21 ?l21 ?c21 ?k21 ?a22 ?l22 ?c22 ?k22 ?a23 ?l23 ?c23 ?k23 ?a24 ?l24 ?c24 ?k24 ?a25 ?l25 ?c25 ?k25 ?a26 ?l26 ?c26 ?k26 ?a27 ?l27 ?c27 ?k27 ?a28 ?l28 ?c28 ?k28 ?a29 ?l29 ?c29 ?k29 ?a30 ?l30 ?c30 ?k30 ?a31 ?l31 ?c31 ?k31 ?z0 ?z1 ?z2 ?z3 ?z4 ?z5 ?z6 ?z7 ?z8 ?z9 ?z10 ?z11 ?z12 ?z13 ?z14 ?z15 ?z16 ?z17 ?z18 ?z19 ?z20 ?xga_cG ?xgt_cG ?xcl_cG ?xmo_cG ?xmb_cG ?xr_cG ?xsp ?xtk ?xsa ?xna ?xhd ?xmr ?xf ?xl ?xc ?xkp ?xfn ?xin
    (case a0 => k_is)
    (case l0 => k_is)
    (case c0 => k_is)
    (case k0 => k_is)
    (case a1 => k_is)
    (case l1 => k_is)
    (case c1 => k_is)
    (case k1 => k_is)
    (case a2 => k_is)
    (case l2 => k_is)
    (case c2 => k_is)
    (case k2 => k_is)
    (case a3 => k_is)
    (case l3 => k_is)
    (case c3 => k_is)
    (case k3 => k_is)
    (case a4 => k_is)
    (case l4 => k_is)
    (case c4 => k_is)
    (case k4 => k_is)
    (case a5 => k_is)
    (case l5 => k_is)
    (case c5 => k_is)
    (case k5 => k_is)
    (case a6 => k_is)
    (case l6 => k_is)
    (case c6 => k_is)
    (case k6 => k_is)
    (case a7 => k_is)
    (case l7 => k_is)
    (case c7 => k_is)
    (case k7 => k_is)
    (case a8 => k_is)
    (case l8 => k_is)
    (case c8 => k_is)
    (case k8 => k_is)
    (case a9 => k_is)
    (case l9 => k_is)
    (case c9 => k_is)
    (case k9 => k_is)
    (case a10 => k_is)
    (case l10 => k_is)
    (case c10 => k_is)
    (case k10 => k_is)
    (case a11 => k_is)
    (case l11 => k_is)
    (case c11 => k_is)
    (case k11 => k_is)
    (case a12 => k_is)
    (case l12 => k_is)
    (case c12 => k_is)
    (case k12 => k_is)
    (case a13 => k_is)
    (case l13 => k_is)
    (case c13 => k_is)
    (case k13 => k_is)
    (case a14 => k_is)
    (case l14 => k_is)
    (case c14 => k_is)
    (case k14 => k_is)
    (case a15 => k_is)
    (case l15 => k_is)
    (case c15 => k_is)
    (case k15 => k_is)
    (case a16 => k_is)
    (case l16 => k_is)
    (case c16 => k_is)
    (case k16 => k_is)
    (case a17 => k_is)
    (case l17 => k_is)
    (case c17 => k_is)
    (case k17 => k_is)
    (case a18 => k_is)
    (case l18 => k_is)
    (case c18 => k_is)
    (case k18 => k_is)
    (case a19 => k_is)
    (case l19 => k_is)
    (case c19 => k_is)
    (case k19 => k_is)
    (case a20 => k_is)
    (case l20 => k_is)
    (case c20 => k_is)
    (case k20 => k_is)
    (case a21 => k_is)
    (case l21 => k_is)
    (case c21 => k_is)
    (case k21 => k_is)
    (case a22 => k_is)
    (case l22 => k_is)
    (case c22 => k_is)
    (case k22 => k_is)
    (case a23 => k_is)
    (case l23 => k_is)
    (case c23 => k_is)
    (case k23 => k_is)
    (case a24 => k_is)
    (case l24 => k_is)
    (case c24 => k_is)
    (case k24 => k_is)
    (case a25 => k_is)
    (case l25 => k_is)
    (case c25 => k_is)
    (case k25 => k_is)
    (case a26 => k_is)
    (case l26 => k_is)
    (case c26 => k_is)
    (case k26 => k_is)
    (case a27 => k_is)
    (case l27 => k_is)
    (case c27 => k_is)
    (case k27 => k_is)
    (case a28 => k_is)
    (case l28 => k_is)
    (case c28 => k_is)
    (case k28 => k_is)
    (case a29 => k_is)
    (case l29 => k_is)
    (case c29 => k_is)
    (case k29 => k_is)
    (case a30 => k_is)
    (case l30 => k_is)
    (case c30 => k_is)
    (case k30 => k_is)
    (case a31 => k_is)
    (case l31 => k_is)
    (case c31 => k_is)
    (case k31 => k_is)
    (case z0 => k_is)
    (case z1 => k_is)
    (case z2 => k_is)
    (case z3 => k_is)
    (case z4 => k_is)
    (case z5 => k_is)
    (case z6 => k_is)
    (case z7 => k_is)
    (case z8 => k_is)
    (case z9 => k_is)
    (case z10 => k_is)
    (case z11 => k_is)
    (case z12 => k_is)
    (case z13 => k_is)
    (case z14 => k_is)
    (case z15 => k_is)
    (case z16 => k_is)
    (case z17 => k_exc)
    (case z18 => k_is)
    (case z19 => k_exc)
    (case z20 => k_is)
    (case xga_cG => k_is)
    (case xgt_cG => k_is)
    (case xcl_cG => k_is)
    (case xmo_cG => k_is)
    (case xmb_cG => k_is)
    (case xr_cG => kts_exm)
    (case xsp => k_is)
    (case xtk => k_is)
    (case xsa => k_is)
    (case xna => k_is)
    (case xhd => k_is)
    (case xmr => kernel_rfl)
    (case xf => k_is)
    (case xl => k_is)
    (case xc => k_is)
    (case xkp => k_is)
    (case xfn => k_is)
    (case xin => kernel_rfl)
