import PyProof.Rows.All
import Wide.All
import OpenK.AllK
import Wide.FinOn
import Lean
import PyProof.EqAt
import PyProof.EqKinds
import PyProof.TupleCall
import PySem.Challenge.RW_restfigures_k21_figure_texts
set_option Elab.async false
set_option compiler.extract_closed false
set_option linter.all false
set_option maxRecDepth 100000
namespace L2
open PySem PySem.Spec PyProof.Rows
noncomputable abbrev Key := Sum Int Str
noncomputable def keyIs : Key → Value → Bool
  | .inl k, v => Value.isInt k v
  | .inr x, v => Value.isStrOf x v
noncomputable def keyH (w : World) : Key → Int
  | .inl k => hashInt k
  | .inr x => hashStr w x
theorem keyIs_shape : ∀ {k : Key} {v : Value}, keyIs k v = true → (∃ i t, k = Sum.inl i ∧ v = Value.int i t) ∨ (∃ x t, k = Sum.inr x ∧ v = Value.str x t)
  | .inl i, v, h => by
    obtain ⟨t, e⟩ := Value.isInt_shape (k := i) (v := v) h
    exact .inl ⟨i, t, rfl, e⟩
  | .inr x, v, h => by
    obtain ⟨t, e⟩ := Value.isStrOf_shape (x := x) (v := v) h
    exact .inr ⟨x, t, rfl, e⟩
theorem key_ll (a b : Int) : decide ((Sum.inl a : Key) = Sum.inl b) = (a == b) := by
  by_cases e : a = b
  · subst e; simp
  · have h : ¬ (Sum.inl a : Key) = Sum.inl b := fun q => e (Sum.inl.inj q)
    rw [decide_eq_false h]
    exact (beq_eq_false_iff_ne.mpr e).symm
theorem key_rr (a b : Str) : decide ((Sum.inr a : Key) = Sum.inr b) = decide (a = b) := by
  by_cases e : a = b
  · subst e; simp
  · have h : ¬ (Sum.inr a : Key) = Sum.inr b := fun q => e (Sum.inr.inj q)
    rw [decide_eq_false h, decide_eq_false e]
theorem key_lr (a : Int) (b : Str) : decide ((Sum.inl a : Key) = Sum.inr b) = false := decide_eq_false (fun q => nomatch q)
theorem key_rl (a : Str) (b : Int) : decide ((Sum.inr a : Key) = Sum.inl b) = false := decide_eq_false (fun q => nomatch q)
noncomputable def mixKind (prog : Program) (w : World) : PySem.KeyKind prog w Key where
  is := keyIs
  hash := keyH w
  inj := fun v a b ha hb => by
    rcases keyIs_shape ha with ⟨i, t, rfl, rfl⟩ | ⟨x, t, rfl, rfl⟩
    · rcases keyIs_shape hb with ⟨j, u, rfl, e⟩ | ⟨y, u, rfl, e⟩
      · injection e with e1 _; rw [e1]
      · exact nomatch e
    · rcases keyIs_shape hb with ⟨j, u, rfl, e⟩ | ⟨y, u, rfl, e⟩
      · exact nomatch e
      · injection e with e1 _; rw [e1]
  byValue := fun k v h => by
    rcases keyIs_shape h with ⟨i, t, rfl, rfl⟩ | ⟨x, t, rfl, rfl⟩ <;> rfl
  pyHash := fun hv h => by
    rcases keyIs_shape hv with ⟨i, t, rfl, rfl⟩ | ⟨x, t, rfl, rfl⟩
    · exact wpAny_pyHash_int h
    · exact wpAny_pyHash_str h
  eqBool := fun hu hv h => by
    rcases keyIs_shape hu with ⟨i, t, rfl, rfl⟩ | ⟨x, t, rfl, rfl⟩
    · rcases keyIs_shape hv with ⟨j, u, rfl, rfl⟩ | ⟨y, u, rfl, rfl⟩
      · rw [key_ll] at h; exact wpAny_eqBool_int h
      · rw [key_lr] at h; exact SeqAt.EqAt.int_str i t y u _ _ _ _ h
    · rcases keyIs_shape hv with ⟨j, u, rfl, rfl⟩ | ⟨y, u, rfl, rfl⟩
      · rw [key_rl] at h; exact SeqAt.EqAt.str_int x t j u _ _ _ _ h
      · rw [key_rr] at h; exact wpAny_eqBool_str h
  «strs» := fun k x t v h => by
    rcases keyIs_shape h with ⟨i, u, rfl, e⟩ | ⟨y, u, rfl, e⟩
    · exact nomatch e
    · injection e with e1 _
      subst e1
      cases v <;> rfl
end L2
namespace L2
open PySem PySem.Spec PyProof.Rows
inductive V where
  | non | bl (b : Bool) | int (i : Int) | str (x : Str) | byt (b : Array UInt8) | flt (b : UInt64) | ref (a : Addr) | ty (n : String)
  deriving DecidableEq
noncomputable def RelV : V → Value → Prop
  | .non, u => u = Value.none
  | .bl b, u => u = Value.bool b
  | .int i, u => ∃ t, u = Value.int i t
  | .str x, u => ∃ t, u = Value.str x t
  | .byt b, u => ∃ t, u = Value.bytes b t
  | .flt b, u => ∃ t, u = Value.float b t
  | .ref a, u => u = Value.ref a
  | .ty n, u => u = Value.type n
noncomputable abbrev Vals : List V → List Value → Prop := Paired RelV
theorem Vals.length {xs : List V} {us : List Value} (r : Vals xs us) : xs.length = us.length := Paired.length r
theorem Vals.get : ∀ {xs : List V} {us : List Value} {i : Nat} {x : V}, Vals xs us → xs[i]? = some x → ∃ u, us[i]? = some u ∧ RelV x u
  | _, _, _, _, .nil, e => by simp at e
  | _, _, 0, _, .cons r _, e => by simp at e; subst e; exact ⟨_, rfl, r⟩
  | _, _, i + 1, x, .cons _ t, e => by
    obtain ⟨u, h1, h2⟩ := Vals.get (i := i) (x := x) t (by simpa using e)
    exact ⟨u, by simpa using h1, h2⟩
theorem Vals.set {x : V} {u : Value} (r : RelV x u) : ∀ {xs : List V} {us : List Value} (i : Nat), Vals xs us → Vals (xs.set i x) (us.set i u)
  | _, _, _, .nil => .nil
  | _, _, 0, .cons _ t => .cons r t
  | _, _, i + 1, .cons q t => .cons q (Vals.set r i t)
theorem Vals.append : ∀ {xs ys : List V} {us ws : List Value}, Vals xs us → Vals ys ws → Vals (xs ++ ys) (us ++ ws)
  | _, _, _, _, .nil, s => s
  | _, _, _, _, .cons r t, s => .cons r (Vals.append t s)
theorem Vals.take : ∀ {xs : List V} {us : List Value} (n : Nat), Vals xs us → Vals (xs.take n) (us.take n)
  | _, _, 0, _ => .nil
  | _, _, _ + 1, .nil => .nil
  | _, _, n + 1, .cons r t => .cons r (Vals.take n t)
theorem Vals.drop : ∀ {xs : List V} {us : List Value} (n : Nat), Vals xs us → Vals (xs.drop n) (us.drop n)
  | _, _, 0, r => r
  | _, _, _ + 1, .nil => .nil
  | _, _, n + 1, .cons _ t => Vals.drop n t
theorem Vals.none_of : ∀ {xs : List V} {us : List Value} {i : Nat}, Vals xs us → xs[i]? = none → us[i]? = none := fun {xs us i} r e => by
  have h1 := r.length
  have h2 : xs.length ≤ i := List.getElem?_eq_none_iff.mp e
  exact List.getElem?_eq_none_iff.mpr (by omega)
noncomputable def RelO : Option V → Option Value → Prop
  | some v, some u => RelV v u
  | none, none => True
  | _, _ => False
noncomputable def KV {κ : Type} : List (κ × V) → List (κ × Value) → Prop := Paired fun (p : κ × V) (q : κ × Value) => p.1 = q.1 ∧ RelV p.2 q.2
noncomputable def kV : Key → V
  | .inl i => .int i
  | .inr x => .str x
inductive HO where
  | lst (xs : List V)
  | tup (xs : List V)
  | dK (kvs : List (Key × V)) | dT (kvs : List (List Key × V))
  | set (S : Int → Bool) (n : Nat)
  | ins (C dx : Addr) (fs : List (Str × V))
  | own (x : Addr)
  | xd (fs : List (Str × V))
  | met (f x : Addr)
  | rng (lo hi : Int)
  | frz (o : Obj) (u : HO)
  | tbl (ps : Array Value)
  | ext (φ : Heap → Prop)
noncomputable abbrev Hp := Addr → Option HO
noncomputable def upd (H : Hp) (a : Addr) (o : HO) : Hp := fun b => if b = a then some o else H b
theorem upd_same {H : Hp} {a : Addr} {o : HO} : upd H a o a = some o := by unfold upd; rw [if_pos rfl]
theorem upd_ne {H : Hp} {a b : Addr} {o : HO} (h : b ≠ a) : upd H a o b = H b := by unfold upd; rw [if_neg h]
theorem ne_of_none {H : Hp} {a b : Addr} {o : HO} (h : H a = some o) (h' : H b = none) : a ≠ b := by
  intro e; subst e; rw [h] at h'; cases h'
section
variable (P : Program) (w : World)
noncomputable def ObjOk (H : Hp) (h : Heap) (a : Addr) : HO → Prop
  | .lst xs => xs.length ≤ sizeLine ∧ ∃ (its : List Value) (n : Nat), Vals xs its ∧ h.get? a = some { cls := .type "list", data := .seq its.toArray n }
  | .tup xs => xs.length ≤ sizeLine ∧ ∃ its : List Value, Vals xs its ∧ IsTup h a its.toArray
  | .dK kvs => kvs.length ≤ sizeLine ∧ (a == sysModules) = false ∧ ∃ vs, KV kvs vs ∧ h.DictOf (mixKind P w) a vs
  | .dT kvs => kvs.length ≤ sizeLine ∧ (a == sysModules) = false ∧ ∃ xs : List (List Key × Addr × Value),
      Paired (fun (p : List Key × V) (q : List Key × Addr × Value) => p.1 = q.1 ∧ H q.2.1 = some (.tup (p.1.map kV)) ∧ RelV p.2 q.2.2) kvs xs ∧
      ∃ o es ep, h.get? a = some o ∧ o.ExactDict ∧ o.data = .dict es ep ∧ es.toList = xs.map (entryOfKey (tupleKind (mixKind P w))) ∧ (xs.map (·.1)).Nodup
  | .set S n => h.SetOf (intKind P w) a S n
  | .ins C dx fs => H dx = some (.own a) ∧ fs.length ≤ 1000 ∧ dx ≠ a ∧ h.get? a = some (PySem.W.instObj C dx) ∧
      ∃ mA, h.Ns1 dx mA ∧ (∀ f, RelO (fs.lookup f) (mA f)) ∧ PySem.Within mA (fs.map (·.1))
  | .own _ => ∃ o, h.get? a = some o
  | .xd fs => ∃ mA, h.Ns1 a mA ∧ ∀ f, RelO (fs.lookup f) (mA f)
  | .rng lo hi => ∃ t u v, h.get? a = some { cls := .type "range", data := .fields #[.int lo t, .int hi u, .int 1 v] }
  | .frz o u => h.get? a = some o ∧ ObjOk H h a u
  | .tbl ps => h.get? a = some { cls := .none, data := .fields ps }
  | .met f x => h.get? a = some (PySem.W.methodObj (.ref f) (.ref x))
  | .ext φ => φ h ∧ (∃ o, h.get? a = some o) ∧ ∀ h1 h2 : Heap, φ h1 → (∀ o, h1.get? a = some o → h2.get? a = some o) → φ h2
noncomputable def HOk (H : Hp) (h : Heap) : Prop := ∀ a o, H a = some o → ObjOk P w H h a o
end
section
variable {P : Program} {w : World} {H H' : Hp} {h h' : Heap} {a : Addr} {o : HO}
theorem ObjOk.lt (x : ObjOk P w H h a o) : a < h.objs.size := by
  cases o with
  | lst xs => obtain ⟨_, _, _, _, e⟩ := x; exact Heap.lt_size e
  | tup xs => obtain ⟨_, _, _, p⟩ := x; exact p.lt
  | dK kvs => obtain ⟨_, _, _, _, o, _, _, e, _⟩ := x; exact Heap.lt_size e
  | dT kvs => obtain ⟨_, _, _, _, o, _, _, e, _⟩ := x; exact Heap.lt_size e
  | set S n => obtain ⟨o, _, _, _, e, _⟩ := x; exact Heap.lt_size e
  | ins C dx fs => obtain ⟨_, _, _, e, _⟩ := x; exact Heap.lt_size e
  | own y => obtain ⟨_, e⟩ := x; exact Heap.lt_size e
  | xd fs => obtain ⟨_, ⟨_, _, _, e, _⟩, _⟩ := x; exact Heap.lt_size e
  | rng lo hi => obtain ⟨_, _, _, e⟩ := x; exact Heap.lt_size e
  | frz ob u => obtain ⟨e, _⟩ := x; exact Heap.lt_size e
  | tbl ps => exact Heap.lt_size (show h.get? a = some _ from x)
  | met f y => exact Heap.lt_size (show h.get? a = some _ from x)
  | ext φ => obtain ⟨_, ⟨_, e⟩, _⟩ := x; exact Heap.lt_size e
theorem Paired.mapP {α β : Type} {F G : α → β → Prop} : ∀ {l₁ : List α} {l₂ : List β}, Paired F l₁ l₂ → (∀ a b, F a b → G a b) → Paired G l₁ l₂
  | _, _, .nil, _ => .nil
  | _, _, .cons r t, f => .cons (f _ _ r) (Paired.mapP t f)
theorem ObjOk.stay (x : ObjOk P w H h a o) (k : ∀ b u, (b = a ∨ H b = some (.own a)) → h.get? b = some u → h'.get? b = some u)
    (ho : ∀ b, H b = some (.own a) → H' b = some (.own a)) (ht : ∀ b xs, H b = some (.tup xs) → H' b = some (.tup xs)) : ObjOk P w H' h' a o := by
  induction o with
  | lst xs => obtain ⟨z, its, n, r, e⟩ := x; exact ⟨z, its, n, r, k _ _ (.inl rfl) e⟩
  | tup xs => obtain ⟨z, its, r, ob, e, c⟩ := x; exact ⟨z, its, r, ob, k _ _ (.inl rfl) e, c⟩
  | dK kvs => obtain ⟨z, y, vs, r, ob, es, ep, e, c⟩ := x; exact ⟨z, y, vs, r, ob, es, ep, k _ _ (.inl rfl) e, c⟩
  | dT kvs =>
    obtain ⟨z, y, xs, r, ob, es, ep, e, c⟩ := x
    exact ⟨z, y, xs, Paired.mapP r fun p q z => ⟨z.1, ht _ _ z.2.1, z.2.2⟩, ob, es, ep, k _ _ (.inl rfl) e, c⟩
  | set S n => obtain ⟨ob, es, ep, t, e, c⟩ := x; exact ⟨ob, es, ep, t, k _ _ (.inl rfl) e, c⟩
  | ins C dx fs =>
    obtain ⟨d, z, ne, e, mA, ⟨od, es, ep, e2, c⟩, r⟩ := x
    exact ⟨ho _ d, z, ne, k _ _ (.inl rfl) e, mA, ⟨od, es, ep, k _ _ (.inr d) e2, c⟩, r⟩
  | own y => obtain ⟨ob, e⟩ := x; exact ⟨ob, k _ _ (.inl rfl) e⟩
  | xd fs => obtain ⟨mA, ⟨od, es, ep, e, c⟩, r⟩ := x; exact ⟨mA, ⟨od, es, ep, k _ _ (.inl rfl) e, c⟩, r⟩
  | rng lo hi => obtain ⟨t, u, v, e⟩ := x; exact ⟨t, u, v, k _ _ (.inl rfl) e⟩
  | frz ob u ih => obtain ⟨e, q⟩ := x; exact ⟨k _ _ (.inl rfl) e, ih q⟩
  | tbl ps =>
    have e : h.get? a = some { cls := .none, data := .fields ps } := x
    show h'.get? a = some { cls := .none, data := .fields ps }
    exact k a _ (.inl rfl) e
  | met f y =>
    have e : h.get? a = some (PySem.W.methodObj (.ref f) (.ref y)) := x
    show h'.get? a = some (PySem.W.methodObj (.ref f) (.ref y))
    exact k a _ (.inl rfl) e
  | ext φ => obtain ⟨p, ⟨o, e⟩, st⟩ := x; exact ⟨st _ _ p fun o q => k _ _ (.inl rfl) q, ⟨o, k _ _ (.inl rfl) e⟩, st⟩
theorem HOk.lt (x : HOk P w H h) (e : H a = some o) : a < h.objs.size := (x a o e).lt
theorem HOk.fresh (x : HOk P w H h) (e : h.objs.size ≤ a) : H a = none := by
  cases q : H a with
  | none => rfl
  | some u => exact absurd (Nat.lt_of_lt_of_le (x.lt q) e) (Nat.lt_irrefl _)
theorem HOk.kept (x : HOk P w H h) (k : ∀ b u, h.get? b = some u → h'.get? b = some u) : HOk P w H h' := fun a o e =>
  (x a o e).stay (fun b u _ q => k b u q) (fun _ q => q) fun _ _ q => q
theorem HOk.laid (x : HOk P w H h) (k : ∀ b u, h.get? b = some u → h'.get? b = some u) (hp : h.objs.size ≤ a) (new : ObjOk P w (upd H a o) h' a o) : HOk P w (upd H a o) h' := fun b u e => by
  have hn := x.fresh hp
  by_cases hb : b = a
  · subst hb; rw [upd_same] at e; cases e; exact new
  · rw [upd_ne hb] at e
    exact (x b u e).stay (fun c v _ q => k c v q) (fun c q => by rw [upd_ne (ne_of_none q hn)]; exact q) fun c xs q => by rw [upd_ne (ne_of_none q hn)]; exact q
end
noncomputable def Rd (H : Hp) (a : Addr) (u : HO) : Prop := H a = some u ∨ ∃ o, H a = some (.frz o u)
theorem Rd.ok {P : Program} {w : World} {H : Hp} {h : Heap} {a : Addr} {u : HO} (r : Rd H a u) (x : HOk P w H h) : ObjOk P w H h a u := by
  rcases r with r | ⟨o, r⟩
  · exact x a u r
  · obtain ⟨_, q⟩ := x a _ r
    exact q
noncomputable def Mut : Option HO → Prop
  | some (.lst _) => True
  | some (.dK _) => True
  | some (.dT _) => True
  | some (.set _ _) => True
  | some (.ins _ _ _) => True
  | some (.ext _) => True
  | _ => False
section
variable {P : Program} {w : World} {H : Hp} {h h' : Heap} {x e : Addr} {o' : HO}
theorem HOk.write (ok : HOk P w H h) (mu : Mut (H x)) (he : e = x ∨ H e = some (.own x)) (k : ∀ b u, b ≠ e → h.get? b = some u → h'.get? b = some u) (heo : ∃ u, h'.get? e = some u)
    (new : ObjOk P w (upd H x o') h' x o') : HOk P w (upd H x o') h' := fun b u q => by
  have nown : ∀ c y, H c = some (.own y) → c ≠ x := fun c y r z => by subst z; rw [r] at mu; exact mu
  have ntup : ∀ c xs, H c = some (.tup xs) → c ≠ x := fun c xs r z => by subst z; rw [r] at mu; exact mu
  by_cases hb : b = x
  · subst hb; rw [upd_same] at q; cases q; exact new
  · rw [upd_ne hb] at q
    by_cases hbe : b = e
    · have q' : H b = some (.own x) := by
        rcases he with z | z
        · exact absurd (hbe.trans z) hb
        · rw [hbe]; exact z
      rw [q] at q'; cases q'
      obtain ⟨v, hv⟩ := heo
      exact ⟨v, by rw [hbe]; exact hv⟩
    · refine (ok b u q).stay (fun c v hc r => k c v ?_ r) (fun c r => by rw [upd_ne (nown c b r)]; exact r) fun c xs r => by rw [upd_ne (ntup c xs r)]; exact r
      rcases hc with rfl | hc
      · exact hbe
      · rintro rfl
        rcases he with z | z
        · exact nown c b hc z
        · rw [hc] at z; cases z; exact hb rfl
end
structure Un (fs ex : List Addr) (H H' : Hp) (h h' : Heap) : Prop where
  keep : ∀ b o, h.get? b = some o → H b = none → b ∉ fs → b ∉ ex → h'.get? b = some o
  slot : ∀ b o, h.get? b = some o → H b = none → b ∈ fs → b ∉ ex → ∃ sl, h'.get? b = some { o with slots := sl }
  free : ∀ b o, h.get? b = some o → H b = none → b ∉ ex → H' b = none
  there : ∀ b o, h.get? b = some o → b ∉ ex → ∃ o', h'.get? b = some o'
  tups : ∀ b xs, H b = some (.tup xs) → H' b = some (.tup xs)
  frzs : ∀ b o u, H b = some (.frz o u) → H' b = some (.frz o u)
  tbls : ∀ b ps, H b = some (.tbl ps) → ∃ more, H' b = some (.tbl (ps ++ more))
section
variable {fs fs' ex ex' : List Addr} {H H1 H2 : Hp} {h h1 h2 h' : Heap} {a x e : Addr} {o : HO}
theorem Un.any (u : Un fs ex H H1 h h1) {b : Addr} {ob : Obj} (q : h.get? b = some ob) (n : H b = none) (hx : b ∉ ex) : ∃ sl, h1.get? b = some { ob with slots := sl } := by
  by_cases hb : b ∈ fs
  · exact u.slot b ob q n hb hx
  · exact ⟨ob.slots, u.keep b ob q n hb hx⟩
theorem Un.kept (k : ∀ b u, h.get? b = some u → h'.get? b = some u) : Un fs ex H H h h' :=
  ⟨fun b ob q _ _ _ => k b ob q, fun b ob q _ _ _ => ⟨ob.slots, k b ob q⟩, fun _ _ _ n _ => n, fun b ob q _ => ⟨ob, k b ob q⟩, fun _ _ q => q, fun _ _ _ q => q, fun _ ps q => ⟨#[], by rw [q]; simp⟩⟩
theorem Un.refl : Un fs ex H H h h := Un.kept fun _ _ q => q
theorem Un.laid (k : ∀ b u, h.get? b = some u → h'.get? b = some u) (hp : h.objs.size ≤ a) (hn : H a = none) : Un fs ex H (upd H a o) h h' where
  keep := fun b u q _ _ _ => k b u q
  slot := fun b u q _ _ _ => ⟨u.slots, k b u q⟩
  free := fun b u q n _ => by rw [upd_ne (Nat.ne_of_lt (Nat.lt_of_lt_of_le (Heap.lt_size q) hp))]; exact n
  there := fun b u q _ => ⟨u, k b u q⟩
  tups := fun b xs q => by rw [upd_ne (ne_of_none q hn)]; exact q
  frzs := fun b u xs q => by rw [upd_ne (ne_of_none q hn)]; exact q
  tbls := fun b ps q => ⟨#[], by rw [upd_ne (ne_of_none q hn), q]; simp⟩
theorem Un.write (mu : Mut (H x)) (he : e = x ∨ H e = some (.own x)) (k : ∀ b u, b ≠ e → h.get? b = some u → h'.get? b = some u) (heo : ∃ u, h'.get? e = some u) : Un fs ex H (upd H x o) h h' := by
  have hx : ∀ b, H b = none → b ≠ x := fun b n z => by subst z; rw [n] at mu; exact mu
  have hb : ∀ b, H b = none → b ≠ e := fun b n z => by
    subst z
    rcases he with r | r
    · exact hx b n r
    · rw [n] at r; cases r
  have hm : ∀ b u, H b = some u → ¬ Mut (some u) → b ≠ x := fun b u q nm z => by subst z; rw [q] at mu; exact nm mu
  refine ⟨fun b u q n _ _ => k b u (hb b n) q, fun b u q n _ _ => ⟨u.slots, k b u (hb b n) q⟩, fun b u q n _ => by rw [upd_ne (hx b n)]; exact n, fun b u q _ => ?_,
    fun b xs q => by rw [upd_ne (hm b _ q fun z => z)]; exact q, fun b u xs q => by rw [upd_ne (hm b _ q fun z => z)]; exact q, fun b ps q => ⟨#[], by rw [upd_ne (hm b _ q fun z => z), q]; simp⟩⟩
  by_cases hbe : b = e
  · subst hbe; exact heo
  · exact ⟨u, k b u hbe q⟩
end
noncomputable def trk (h : Heap) (H : Hp) : List Addr := (List.range h.objs.size).filter fun a => (H a).isSome
noncomputable def hidT (h : Heap) (H : Hp) : Heap := PySem.W.hideAll h (trk h H)
theorem hidT_size (h : Heap) (H : Hp) : (hidT h H).objs.size = h.objs.size := PySem.W.hideAll_size _ _
theorem hidT_get {h : Heap} {H : Hp} {b : Addr} {o : Obj} (e : h.get? b = some o) (n : H b = none) : (hidT h H).get? b = some o :=
  PySem.W.hideAll_get _ e fun hm => by
    have q : (H b).isSome = true := (List.mem_filter.mp hm).2
    rw [n] at q; simp at q
theorem of_hidT {h : Heap} {H : Hp} {b : Addr} {o : Obj} (e : (hidT h H).get? b = some o) : h.get? b = some o ∧ H b = none := by
  have e' : h.get? b = some o := PySem.W.of_hideAll (trk h H) e
  refine ⟨e', ?_⟩
  cases q : H b with
  | none => rfl
  | some x =>
    have hm : b ∈ trk h H := List.mem_filter.mpr ⟨List.mem_range.mpr (Heap.lt_size e'), by simp [q]⟩
    have z : (hidT h H).get? b = none := PySem.W.hideAll_none (trk h H) hm
    rw [z] at e; cases e
end L2
namespace L2
open PySem PySem.Spec PyProof.Rows
structure Mod (K : PySem.W.Frag) (mg : Str → Option Value) (base : Heap) : Prop where
  kin : K.In base
  glob : base.Ns mainGlobals mg
  blt : ∃ mb, base.Ns builtinsNs mb ∧ ∀ x : Str, x ≠ "__name__" → mb x = bootBuiltins x
  nolimit : base.NoLimit
set_option genInjectivity false in
structure Cx where
  prog : Program
  w : World
  K : PySem.W.Frag
  mg : Str → Option Value
  base : Heap
  A : Around
  N : List Str
  s₀ : Shared
  H₀ : Hp
  env : Env
  outer : List Env
  stack : List Env
  ex : List Addr
  fn : Str → Bool
  calm : Bool
  pn : List (Addr × Obj)
  xe : Value → Shared → Prop
noncomputable def frs (l : List Env) : List Addr := l.filterMap (·.frame)
noncomputable abbrev Cx.fs (X : Cx) : List Addr := frs X.outer
noncomputable def Vis (sc : Scope) (x : Str) : Prop := sc.names.lookup x = some .local ∨ sc.names.lookup x = some .cell ∨ sc.names.lookup x = some .free
noncomputable def Loc (sc : Scope) (x : Str) : Prop := sc.names.lookup x = some .local ∨ sc.names.lookup x = some .cell
noncomputable def Look (env : Env) (h : Heap) (m : Str → Option Value) (x : Str) (u : Value) : Prop :=
  (env.kindOf x = some .local ∧ m x = some u) ∨ ((env.kindOf x = some .cell ∨ env.kindOf x = some .free) ∧ ∃ c, env.cells.lookup x = some c ∧ h.IsCell c (some u))
set_option genInjectivity false in
structure Cx.Ok (X : Cx) : Prop where
  mod : Mod X.K X.mg X.base
  kind : X.env.scope.kind = .function
  glob : X.env.globals = mainGlobals
  blt : X.env.builtins = builtinsNs
  above : X.s₀.heap.objs.size ≤ X.env.locals
  inj : ∀ x y c, X.env.cells.lookup x = some c → X.env.cells.lookup y = some c → x = y
  has : ∀ x, (X.env.kindOf x = some .cell ∨ X.env.kindOf x = some .free) → ∃ c, X.env.cells.lookup x = some c
  cab : ∀ x c, X.fn x = true → X.env.cells.lookup x = some c → X.s₀.heap.objs.size ≤ c
  hd : X.calm = true → X.A.handled = none
  frames : X.A.frames = some X.stack
  stk : X.stack = X.outer ∨ (X.stack = X.env :: X.outer ∧ X.env.frame = some X.env.locals)
  exf : ∀ b ∈ X.ex, b ≠ X.env.locals ∧ ∀ x c, X.env.cells.lookup x = some c → c ≠ b
  bs : ∀ b o, X.base.get? b = some o → X.s₀.heap.get? b = some o ∧ X.H₀ b = none
  bsz : X.base.objs.size ≤ X.s₀.heap.objs.size
  noex : ∀ b o, X.base.get? b = some o → b ∉ X.ex
  exfs : ∀ b ∈ X.ex, b ∉ X.fs
  funs : X.s₀.heap.FunFrames X.base X.outer
  frf : ∀ b ∈ X.fs, X.H₀ b = none
structure Inv (X : Cx) (pins : List (Addr × Obj)) (σ : List (Option V)) (H : Hp) (s : Shared) : Prop where
  ok : X.Ok
  os : s.os = X.s₀.os
  bare : AllBare s.gens
  base : Un X.fs X.ex X.H₀ H X.s₀.heap s.heap
  loc : ∃ m, s.heap.Ns X.env.locals m ∧ ∀ (i : Nat) (x : Str) (v : V), X.N[i]? = some x → σ[i]? = some (some v) → Vis X.env.scope x → ∃ u, RelV v u ∧ Look X.env s.heap m x u
  cell : ∀ x c, X.env.cells.lookup x = some c → ∃ v, s.heap.IsCell c v
  free : H X.env.locals = none
  freeC : ∀ x c, X.env.cells.lookup x = some c → H c = none
  pin : ∀ p ∈ X.pn ++ pins, s.heap.get? p.1 = some p.2 ∧ H p.1 = none ∧ p.1 ≠ X.env.locals ∧ p.1 ∉ X.fs ∧ ∀ v, p.2.data ≠ .cell v
  hok : HOk X.prog X.w H s.heap
  len : σ.length = X.N.length
section
variable {X : Cx} {pins : List (Addr × Obj)} {σ : List (Option V)} {H H' : Hp} {s : Shared} {h' : Heap}
theorem Cx.Ok.nofr (ok : X.Ok) {b : Addr} {o : Obj} (e : X.base.get? b = some o) : b ∉ X.fs := fun hb => by
  have := (ok.funs.mem hb).1
  rw [e] at this; cases this
theorem Inv.bs (I : Inv X pins σ H s) : ∀ b o, X.base.get? b = some o → s.heap.get? b = some o ∧ H b = none := fun b o e =>
  ⟨I.base.keep b o (I.ok.bs b o e).1 (I.ok.bs b o e).2 (I.ok.nofr e) (I.ok.noex b o e), I.base.free b o (I.ok.bs b o e).1 (I.ok.bs b o e).2 (I.ok.noex b o e)⟩
theorem Inv.bk (I : Inv X pins σ H s) : ∀ b o, X.base.get? b = some o → s.heap.get? b = some o := fun b o e => (I.bs b o e).1
theorem Inv.mod (I : Inv X pins σ H s) : Mod X.K X.mg X.base := I.ok.mod
theorem Inv.kIn (I : Inv X pins σ H s) : X.K.In s.heap := I.ok.mod.kin.keeps I.bk
theorem Inv.fr (I : Inv X pins σ H s) : ∃ m, Fr X.base X.env.locals s.heap m :=
  let ⟨m, hn, _⟩ := I.loc
  ⟨m, hn, I.bk, Nat.le_trans I.ok.bsz I.ok.above⟩
theorem Inv.lt (I : Inv X pins σ H s) : X.env.locals < s.heap.objs.size := let ⟨_, hn, _⟩ := I.loc; hn.lt
theorem Inv.sz (I : Inv X pins σ H s) : X.s₀.heap.objs.size ≤ s.heap.objs.size := Nat.le_trans I.ok.above (Nat.le_of_lt I.lt)
theorem Inv.nofs (I : Inv X pins σ H s) {a : Addr} (h : s.heap.objs.size ≤ a) : a ∉ X.fs := fun hb => by
  obtain ⟨_, o, ho, _⟩ := I.ok.funs.mem hb
  exact absurd (Nat.lt_of_lt_of_le (Heap.lt_size ho) (Nat.le_trans I.sz h)) (Nat.lt_irrefl _)
theorem Inv.cne (I : Inv X pins σ H s) : ∀ x c, X.env.cells.lookup x = some c → c ≠ X.env.locals := fun x c e z => by
  obtain ⟨v, o, ho, hd⟩ := I.cell x c e
  obtain ⟨m, ⟨o', es, ep, ho', hd', _⟩, _⟩ := I.loc
  rw [z, ho'] at ho; cases ho; rw [hd'] at hd; cases hd
theorem Inv.funs (I : Inv X pins σ H s) : s.heap.FunFrames X.base X.outer := by
  have all : ∀ (l : List Env), (∀ b ∈ frs l, b ∈ X.fs) → X.s₀.heap.FunFrames X.base l → s.heap.FunFrames X.base l := by
    intro l
    induction l with
    | nil => intro _ _; trivial
    | cons env r ih =>
      intro hs hl
      obtain ⟨hk, ⟨L, o, hf, hn, ho, hd⟩, hr⟩ := hl
      have hL : L ∈ X.fs := hs L (by unfold frs; rw [List.filterMap_cons, hf]; exact List.mem_cons_self)
      obtain ⟨sl, e⟩ := I.base.slot L o ho (I.ok.frf L hL) hL fun z => I.ok.exfs L z hL
      exact ⟨hk, ⟨L, _, hf, hn, e, hd⟩, ih (fun b hb => hs b (by unfold frs; rw [List.filterMap_cons, hf]; exact List.mem_cons_of_mem _ hb)) hr⟩
  exact all X.outer (fun _ hb => hb) I.ok.funs
theorem Inv.stack (I : Inv X pins σ H s) : s.heap.FunFrames X.base X.stack := by
  rcases I.ok.stk with e | ⟨e, hf⟩
  · rw [e]; exact I.funs
  · rw [e]
    obtain ⟨m, hn, _⟩ := I.loc
    refine .cons (by rw [I.ok.kind]; decide) hf hn ?_ I.funs
    exact Heap.get?_none_of_le (Nat.le_trans I.ok.bsz I.ok.above)
theorem Inv.stkSub (I : Inv X pins σ H s) : ∀ b ∈ frs X.stack, b ∈ X.env.locals :: X.fs := fun b hb => by
  rcases I.ok.stk with e | ⟨e, hf⟩
  · rw [e] at hb; exact List.mem_cons_of_mem _ hb
  · rw [e] at hb
    unfold frs at hb
    rw [List.filterMap_cons, hf] at hb
    exact hb
theorem Inv.stkFree (I : Inv X pins σ H s) : ∀ b ∈ frs X.stack, H b = none := fun b hb => by
  rcases List.mem_cons.mp (I.stkSub b hb) with e | hb
  · rw [e]; exact I.free
  · obtain ⟨_, o, ho, _⟩ := I.ok.funs.mem hb
    exact I.base.free b o ho (I.ok.frf b hb) fun z => I.ok.exfs b z hb
theorem Inv.step {g' : Array GenState} {t' : Nat} {d' : Drawn} {ch : List Addr} (I : Inv X pins σ H s)
    (hch : ∀ b ∈ ch, (b ∈ X.ex ∨ X.s₀.heap.objs.size ≤ b) ∧ b ≠ X.env.locals ∧ (∀ x c, X.env.cells.lookup x = some c → c ≠ b) ∧ ∀ p ∈ X.pn ++ pins, p.1 ≠ b)
    (keep : ∀ b o, b ≠ X.env.locals → b ∉ X.fs → b ∉ ch → s.heap.get? b = some o → H b = none → h'.get? b = some o)
    (slot : ∀ b o, b ≠ X.env.locals → b ∈ X.fs → b ∉ ch → s.heap.get? b = some o → H b = none → ∃ sl, h'.get? b = some { o with slots := sl }) (free : ∀ b o, b ∉ ch → s.heap.get? b = some o → H b = none → H' b = none)
    (there : ∀ b o, b ∉ ch → s.heap.get? b = some o → ∃ o', h'.get? b = some o')
    (tups : ∀ b xs, H b = some (.tup xs) → H' b = some (.tup xs)) (frzs : ∀ b o u, H b = some (.frz o u) → H' b = some (.frz o u)) (tbls : ∀ b ps, H b = some (.tbl ps) → ∃ more, H' b = some (.tbl (ps ++ more)))
    (ns : ∀ m, s.heap.Ns X.env.locals m → h'.Ns X.env.locals m) (hok : HOk X.prog X.w H' h') (hg : AllBare g') :
    Inv X pins σ H' { s with heap := h', gens := g', drawn := d', toks := t' } := by
  have neL : ∀ b o, X.s₀.heap.get? b = some o → b ≠ X.env.locals := fun b o e => Nat.ne_of_lt (Nat.lt_of_lt_of_le (Heap.lt_size e) I.ok.above)
  have neC : ∀ b o, X.s₀.heap.get? b = some o → b ∉ X.ex → b ∉ ch := fun b o e hx hb => by
    rcases (hch b hb).1 with z | z
    · exact hx z
    · exact absurd (Nat.lt_of_lt_of_le (Heap.lt_size e) z) (Nat.lt_irrefl _)
  have cellK : ∀ x c, X.env.cells.lookup x = some c → ∀ v, s.heap.IsCell c v → h'.IsCell c v := fun x c e v ⟨o, ho, hd⟩ => by
    have nch : c ∉ ch := fun z => (hch c z).2.2.1 x c e rfl
    by_cases hc : c ∈ X.fs
    · obtain ⟨sl, q⟩ := slot c o (I.cne x c e) hc nch ho (I.freeC x c e)
      exact ⟨_, q, hd⟩
    · exact ⟨o, keep c o (I.cne x c e) hc nch ho (I.freeC x c e), hd⟩
  refine ⟨I.ok, I.os, hg, ⟨fun b o e n hb hx => ?_, fun b o e n hb hx => ?_, fun b o e n hx => ?_, fun b o e hx => ?_, fun b xs e => tups b xs (I.base.tups b xs e), fun b o xs e => frzs b o xs (I.base.frzs b o xs e), fun b ps e => ?_⟩, ?_, fun x c e => ?_, ?_, fun x c e => ?_, fun p hp => ?_, hok, I.len⟩
  · exact keep b o (neL b o e) hb (neC b o e hx) (I.base.keep b o e n hb hx) (I.base.free b o e n hx)
  · obtain ⟨sl, e1⟩ := I.base.slot b o e n hb hx
    obtain ⟨sl', e2⟩ := slot b _ (neL b o e) hb (neC b o e hx) e1 (I.base.free b o e n hx)
    exact ⟨sl', e2⟩
  · obtain ⟨o', e1⟩ := I.base.there b o e hx
    exact free b o' (neC b o e hx) e1 (I.base.free b o e n hx)
  · obtain ⟨o', e1⟩ := I.base.there b o e hx
    exact there b o' (neC b o e hx) e1
  · obtain ⟨m1, e1⟩ := I.base.tbls b ps e
    obtain ⟨m2, e2⟩ := tbls b _ e1
    exact ⟨m1 ++ m2, by rw [e2, Array.append_assoc]⟩
  · obtain ⟨m, hn, hl⟩ := I.loc
    refine ⟨m, ns m hn, fun i x v e1 e2 e3 => ?_⟩
    obtain ⟨u, r, l⟩ := hl i x v e1 e2 e3
    refine ⟨u, r, ?_⟩
    rcases l with l | ⟨k, c, e, z⟩
    · exact .inl l
    · exact .inr ⟨k, c, e, cellK x c e _ z⟩
  · obtain ⟨v, z⟩ := I.cell x c e
    exact ⟨v, cellK x c e v z⟩
  · obtain ⟨m, ⟨o, _, _, ho, _⟩, _⟩ := I.loc
    exact free _ o (fun z => (hch _ z).2.1 rfl) ho I.free
  · obtain ⟨v, o, ho, hd⟩ := I.cell x c e
    exact free c o (fun z => (hch c z).2.2.1 x c e rfl) ho (I.freeC x c e)
  · obtain ⟨e, n, ne, nf, d⟩ := I.pin p hp
    have nch : p.1 ∉ ch := fun z => (hch p.1 z).2.2.2 p hp rfl
    exact ⟨keep p.1 p.2 ne nf nch e n, free p.1 p.2 nch e n, ne, nf, d⟩
theorem Inv.un {t' : Nat} (I : Inv X pins σ H s) (u : Un X.fs [] H H' s.heap h') (hok : HOk X.prog X.w H' h') : Inv X pins σ H' { s with heap := h', toks := t' } := by
  obtain ⟨m, ⟨o, es, ep, ho, r⟩, _⟩ := id I.loc
  obtain ⟨sl, hL⟩ := u.any ho I.free (by simp)
  exact I.step (g' := s.gens) (d' := s.drawn) (ch := []) (fun _ z => nomatch z) (fun b o _ hb _ e n => u.keep b o e n hb (by simp)) (fun b o _ hb _ e n => u.slot b o e n hb (by simp)) (fun b o _ e n => u.free b o e n (by simp)) (fun b o _ e => u.there b o e (by simp)) u.tups u.frzs u.tbls (fun m' hm => by
    obtain ⟨o', es', ep', ho', r'⟩ := hm
    rw [ho] at ho'; cases ho'
    exact ⟨_, es', ep', hL, r'⟩) hok I.bare
theorem Inv.call {g' : Array GenState} {t' : Nat} {d' : Drawn} {ch : List Addr} (I : Inv X pins σ H s) (u : Un (frs X.stack) ch H H' s.heap h') (hok : HOk X.prog X.w H' h') (hg : AllBare g')
    (hch : ∀ b ∈ ch, (b ∈ X.ex ∨ X.s₀.heap.objs.size ≤ b) ∧ b ≠ X.env.locals ∧ (∀ x c, X.env.cells.lookup x = some c → c ≠ b) ∧ ∀ p ∈ X.pn ++ pins, p.1 ≠ b) :
    Inv X pins σ H' { s with heap := h', gens := g', drawn := d', toks := t' } := by
  obtain ⟨m, ⟨o, es, ep, ho, r⟩, _⟩ := id I.loc
  obtain ⟨sl, hL⟩ := u.any ho I.free fun z => (hch _ z).2.1 rfl
  exact I.step (ch := ch) hch (fun b o hL hb hc e n => u.keep b o e n (fun z => (List.mem_cons.mp (I.stkSub b z)).elim hL hb) hc) (fun b o _ _ hc e n => u.any e n hc) (fun b o hc e n => u.free b o e n hc) (fun b o hc e => u.there b o e hc) u.tups u.frzs u.tbls (fun m' hm => by
    obtain ⟨o', es', ep', ho', r'⟩ := hm
    rw [ho] at ho'; cases ho'
    exact ⟨_, es', ep', hL, r'⟩) hok hg
theorem Inv.turned {t' : Nat} {it : Addr} (I : Inv X pins σ H s) (k : ∀ b o, b ≠ it → s.heap.get? b = some o → h'.get? b = some o) (hn : H it = none) (hL : it ≠ X.env.locals)
    (h1 : it ∈ X.ex ∨ X.s₀.heap.objs.size ≤ it) (h2 : ∀ x c, X.env.cells.lookup x = some c → c ≠ it) (h3 : ∀ p ∈ X.pn ++ pins, p.1 ≠ it) : Inv X pins σ H { s with heap := h', toks := t' } := by
  have nit : ∀ b u, H b = some u → b ≠ it := fun b u e z => by rw [z, hn] at e; cases e
  refine I.step (g' := s.gens) (d' := s.drawn) (ch := [it]) (fun b hb => ?_) (fun b o _ _ hc e _ => k b o (fun z => hc (by simp [z])) e) (fun b o _ _ hc e _ => ⟨o.slots, k b o (fun z => hc (by simp [z])) e⟩) (fun _ _ _ _ n => n)
    (fun b o hc e => ⟨o, k b o (fun z => hc (by simp [z])) e⟩) (fun _ _ e => e) (fun _ _ _ e => e) (fun b ps e => ⟨#[], by rw [e]; simp⟩) (fun m hm => ?_) (fun b u e => ?_) I.bare
  · have e : b = it := by simpa using hb
    subst e
    exact ⟨h1, hL, h2, h3⟩
  · obtain ⟨o, es, ep, ho, r⟩ := hm
    exact ⟨o, es, ep, k _ o (Ne.symm hL) ho, r⟩
  · refine (I.hok b u e).stay (fun c v hc q => k c v ?_ q) (fun _ q => q) fun _ _ q => q
    rcases hc with z | z
    · rw [z]; exact nit b u e
    · exact nit c _ z
theorem Inv.tok (I : Inv X pins σ H s) (t : Nat) : Inv X pins σ H { s with toks := t } := I.un (h' := s.heap) (t' := t) Un.refl I.hok
theorem Inv.kept {t' : Nat} (I : Inv X pins σ H s) (k : ∀ b u, s.heap.get? b = some u → h'.get? b = some u) : Inv X pins σ H { s with heap := h', toks := t' } := I.un (Un.kept k) (I.hok.kept k)
theorem Inv.laid {a : Addr} {o : HO} {t' : Nat} (I : Inv X pins σ H s) (k : ∀ b u, s.heap.get? b = some u → h'.get? b = some u) (hp : s.heap.objs.size ≤ a) (new : ObjOk X.prog X.w (upd H a o) h' a o) :
    Inv X pins σ (upd H a o) { s with heap := h', toks := t' } := I.un (Un.laid k hp (I.hok.fresh hp)) (I.hok.laid k hp new)
theorem Inv.write {x e : Addr} {o : HO} {t' : Nat} (I : Inv X pins σ H s) (mu : Mut (H x)) (he : e = x ∨ H e = some (.own x)) (k : ∀ b u, b ≠ e → s.heap.get? b = some u → h'.get? b = some u) (heo : ∃ u, h'.get? e = some u)
    (new : ObjOk X.prog X.w (upd H x o) h' x o) : Inv X pins σ (upd H x o) { s with heap := h', toks := t' } := I.un (Un.write mu he k heo) (I.hok.write mu he k heo new)
theorem Inv.weak {σ' : List (Option V)} (I : Inv X pins σ H s) (hl : σ'.length = σ.length) (w : ∀ (i : Nat) v, σ'[i]? = some (some v) → σ[i]? = some (some v)) : Inv X pins σ' H s :=
  ⟨I.ok, I.os, I.bare, I.base, let ⟨m, hn, hl'⟩ := I.loc; ⟨m, hn, fun i x v e1 e2 e3 => hl' i x v e1 (w i v e2) e3⟩, I.cell, I.free, I.freeC, I.pin, I.hok, hl.trans I.len⟩
theorem Inv.pins_of {pins' : List (Addr × Obj)} (I : Inv X pins σ H s) (h : ∀ p ∈ pins', s.heap.get? p.1 = some p.2 ∧ H p.1 = none ∧ p.1 ≠ X.env.locals ∧ p.1 ∉ X.fs ∧ ∀ v, p.2.data ≠ .cell v) : Inv X pins' σ H s :=
  ⟨I.ok, I.os, I.bare, I.base, I.loc, I.cell, I.free, I.freeC, fun p hp => (List.mem_append.mp hp).elim (fun z => I.pin p (List.mem_append_left _ z)) (h p), I.hok, I.len⟩
theorem nodup_ix {N : List Str} (hN : N.Nodup) {i j : Nat} {x : Str} (a : N[i]? = some x) (b : N[j]? = some x) : i = j := by
  obtain ⟨h1, e1⟩ := List.getElem?_eq_some_iff.mp a
  obtain ⟨h2, e2⟩ := List.getElem?_eq_some_iff.mp b
  exact (List.getElem_inj hN).mp (e1.trans e2.symm)
theorem store_ok2 {M : Model} {A : Around} {E : Value → Shared → Prop} {i : Nat} {x : Str} {v : V} {u : Value} {Q : Unit → Shared → Prop} (I : Inv X pins σ H s) (hN : X.N.Nodup) (hi : X.N[i]? = some x) (hx : Loc X.env.scope x) (r : RelV v u)
    (h : ∀ s', Inv X pins (σ.set i (some v)) H s' → (∃ a, Heap.SameBut a s.heap s'.heap ∧ (a = X.env.locals ∨ X.env.cells.lookup x = some a)) → Q () s') (hf : X.fn x = true ∨ X.env.scope.names.lookup x = some .local := by first | exact .inl rfl | exact .inr rfl | assumption) : wpAny M A (storeName X.env x u) Q E s := by
  obtain ⟨m, hn, hl⟩ := id I.loc
  have hcls : (X.env.scope.kind == .class || (X.env.scope.kind == .module && X.env.locals != X.env.globals)) = false := by rw [I.ok.kind]; rfl
  have hiσ : i < σ.length := by rw [I.len]; exact (List.getElem?_eq_some_iff.mp hi).1
  have cne := I.cne
  have tracked : ∀ {a : Addr} {h' : Heap}, (∃ o, s.heap.get? a = some o ∧ H a = none) → Heap.SameBut a s.heap h' → HOk X.prog X.w H h' := fun {a h'} ha hs b ob e => by
    obtain ⟨_, _, hfree⟩ := ha
    refine (I.hok b ob e).stay (fun c w' hc q => (hs.2 c ?_).trans q) (fun _ q => q) fun _ _ q => q
    rintro rfl
    rcases hc with rfl | hc
    · rw [hfree] at e; cases e
    · rw [hfree] at hc; cases hc
  rcases hx with hk | hk
  · refine wpAny_storeName_local hk hn (fun h' hn' hs => ?_) hcls
    obtain ⟨oL, _, _, hoL, _⟩ := id hn
    refine h _ ⟨I.ok, I.os, I.bare, ⟨fun b o e n hb hx => ?_, fun b o e n hb hx => ?_, I.base.free, fun b o e hx => ?_, I.base.tups, I.base.frzs, I.base.tbls⟩, ⟨_, hn', fun j y v' e1 e2 e3 => ?_⟩, fun y c e => ?_, I.free, I.freeC, fun p hp => ?_, tracked ⟨oL, hoL, I.free⟩ hs, by simpa using I.len⟩ ⟨_, hs, .inl rfl⟩
    · exact (hs.2 b (Nat.ne_of_lt (Nat.lt_of_lt_of_le (Heap.lt_size e) I.ok.above))).trans (I.base.keep b o e n hb hx)
    · obtain ⟨sl, e1⟩ := I.base.slot b o e n hb hx
      exact ⟨sl, (hs.2 b (Nat.ne_of_lt (Nat.lt_of_lt_of_le (Heap.lt_size e) I.ok.above))).trans e1⟩
    · obtain ⟨o', e1⟩ := I.base.there b o e hx
      exact ⟨o', (hs.2 b (Nat.ne_of_lt (Nat.lt_of_lt_of_le (Heap.lt_size e) I.ok.above))).trans e1⟩
    · by_cases hj : j = i
      · subst hj
        rw [hi] at e1; cases e1
        rw [List.getElem?_set_self hiσ] at e2
        cases e2
        exact ⟨u, r, .inl ⟨hk, by simp⟩⟩
      · rw [List.getElem?_set_ne (Ne.symm hj)] at e2
        obtain ⟨u', r', q⟩ := hl j y v' e1 e2 e3
        refine ⟨u', r', ?_⟩
        rcases q with ⟨k, e⟩ | ⟨k, c, e, z⟩
        · refine .inl ⟨k, ?_⟩
          have : y ≠ x := fun e => hj (nodup_ix hN e1 (e ▸ hi))
          simp [this, e]
        · exact .inr ⟨k, c, e, z.sameBut hs (cne y c e)⟩
    · obtain ⟨w', z⟩ := I.cell y c e
      exact ⟨w', z.sameBut hs (cne y c e)⟩
    · obtain ⟨e, n, ne, nf, d⟩ := I.pin p hp
      exact ⟨(hs.2 p.1 ne).trans e, n, ne, nf, d⟩
  · have hfn : X.fn x = true := by
      rcases hf with z | z
      · exact z
      · rw [z] at hk; cases hk
    obtain ⟨c, hc⟩ := I.ok.has x (.inl hk)
    obtain ⟨w', z⟩ := I.cell x c hc
    refine wpAny_storeName_cell I.ok.kind hk hc z (fun h' hc' hs => ?_)
    obtain ⟨oc, hoc, hocd⟩ := id z
    refine h { s with heap := h' } ⟨I.ok, I.os, I.bare, ⟨fun b o e n hb hx => ?_, fun b o e n hb hx => ?_, I.base.free, fun b o e hx => ?_, I.base.tups, I.base.frzs, I.base.tbls⟩, ⟨m, hn.sameBut hs (Ne.symm (cne x c hc)), fun j y v' e1 e2 e3 => ?_⟩, fun y c' e => ?_, I.free, I.freeC, fun p hp => ?_, tracked ⟨oc, hoc, I.freeC x c hc⟩ hs, by simpa using I.len⟩ ⟨c, hs, .inr hc⟩
    · exact (hs.2 b (Nat.ne_of_lt (Nat.lt_of_lt_of_le (Heap.lt_size e) (I.ok.cab x c hfn hc)))).trans (I.base.keep b o e n hb hx)
    · obtain ⟨sl, e1⟩ := I.base.slot b o e n hb hx
      exact ⟨sl, (hs.2 b (Nat.ne_of_lt (Nat.lt_of_lt_of_le (Heap.lt_size e) (I.ok.cab x c hfn hc)))).trans e1⟩
    · obtain ⟨o', e1⟩ := I.base.there b o e hx
      exact ⟨o', (hs.2 b (Nat.ne_of_lt (Nat.lt_of_lt_of_le (Heap.lt_size e) (I.ok.cab x c hfn hc)))).trans e1⟩
    · by_cases hj : j = i
      · subst hj
        rw [hi] at e1; cases e1
        rw [List.getElem?_set_self hiσ] at e2
        cases e2
        exact ⟨u, r, .inr ⟨.inl hk, c, hc, hc'⟩⟩
      · rw [List.getElem?_set_ne (Ne.symm hj)] at e2
        obtain ⟨u', r', q⟩ := hl j y v' e1 e2 e3
        refine ⟨u', r', ?_⟩
        rcases q with q | ⟨k, c', e, z'⟩
        · exact .inl q
        · refine .inr ⟨k, c', e, z'.sameBut hs ?_⟩
          rintro rfl
          exact hj (nodup_ix hN e1 (I.ok.inj _ _ _ e hc ▸ hi))
    · by_cases hcc : c' = c
      · subst hcc; exact ⟨_, hc'⟩
      · obtain ⟨w2, z2⟩ := I.cell y c' e
        exact ⟨w2, z2.sameBut hs hcc⟩
    · obtain ⟨e, n, ne, nf, d⟩ := I.pin p hp
      refine ⟨(hs.2 p.1 ?_).trans e, n, ne, nf, d⟩
      intro q
      rw [q, hoc] at e
      have q' : oc = p.2 := Option.some.inj e
      exact d w' (by rw [← q']; exact hocd)
theorem store_ok {M : Model} {A : Around} {E : Value → Shared → Prop} {i : Nat} {x : Str} {v : V} {u : Value} {Q : Unit → Shared → Prop} (I : Inv X pins σ H s) (hN : X.N.Nodup) (hi : X.N[i]? = some x) (hx : Loc X.env.scope x) (r : RelV v u)
    (h : ∀ s', Inv X pins (σ.set i (some v)) H s' → Q () s') (hf : X.fn x = true ∨ X.env.scope.names.lookup x = some .local := by first | exact .inl rfl | exact .inr rfl | assumption) : wpAny M A (storeName X.env x u) Q E s :=
  store_ok2 I hN hi hx r (fun s' I' _ => h s' I') hf
theorem Inv.call' {s' : Shared} {ch : List Addr} (I : Inv X pins σ H s) (ho : s'.os = s.os) (u : Un (frs X.stack) ch H H' s.heap s'.heap) (hok : HOk X.prog X.w H' s'.heap) (hg : AllBare s'.gens)
    (hch : ∀ b ∈ ch, (b ∈ X.ex ∨ X.s₀.heap.objs.size ≤ b) ∧ b ≠ X.env.locals ∧ (∀ x c, X.env.cells.lookup x = some c → c ≠ b) ∧ ∀ p ∈ X.pn ++ pins, p.1 ≠ b) : Inv X pins σ H' s' := by
  obtain ⟨h', g', d', t', o'⟩ := s'
  have e : o' = s.os := ho
  subst e
  exact I.call (g' := g') (t' := t') (d' := d') u hok hg hch
end
noncomputable abbrev XK := Value → Option Addr → Hp → Prop
noncomputable abbrev St := List (Option V)
noncomputable abbrev VK := V → Hp → Prop
noncomputable abbrev TE := St → Hp → VK → Prop
noncomputable abbrev TT := St → Hp → (Bool → Hp → Prop) → Prop
noncomputable abbrev TA := St → Hp → (List V → Hp → Prop) → Prop
structure Ends where
  nx : St → Hp → Prop
  rt : VK
  bk : St → Hp → Prop := fun _ _ => False
  ct : St → Hp → Prop := fun _ _ => False
noncomputable abbrev TS := Ends → St → Hp → Prop
noncomputable def EP (X : Cx) (pins : List (Addr × Obj)) (σ : St) (Q : VK) (u : Value) (s' : Shared) : Prop := ∃ v H', Inv X pins σ H' s' ∧ RelV v u ∧ Q v H'
noncomputable def TP (X : Cx) (pins : List (Addr × Obj)) (σ : St) (Q : Bool → Hp → Prop) (b : Bool) (s' : Shared) : Prop := ∃ H', Inv X pins σ H' s' ∧ Q b H'
noncomputable def AP (X : Cx) (pins : List (Addr × Obj)) (σ : St) (Q : List V → Hp → Prop) (us : List Value) (s' : Shared) : Prop := ∃ vs H', Inv X pins σ H' s' ∧ Vals vs us ∧ Q vs H'
noncomputable def SP (X : Cx) (pins : List (Addr × Obj)) (D : Ends) (f : Flow) (s' : Shared) : Prop :=
  match f with
  | .next => ∃ σ' H', Inv X pins σ' H' s' ∧ D.nx σ' H'
  | .brk => ∃ σ' H', Inv X pins σ' H' s' ∧ D.bk σ' H'
  | .cont => ∃ σ' H', Inv X pins σ' H' s' ∧ D.ct σ' H'
  | .ret u => ∃ v σ' H', Inv X pins σ' H' s' ∧ RelV v u ∧ D.rt v H'
noncomputable def PE (X : Cx) (e : Expr) (t : TE) : Prop :=
  ∀ (pins : List (Addr × Obj)) (s : Shared) (σ : St) (H : Hp) (Q : VK), Inv X pins σ H s → t σ H Q → wpAny (model X.prog X.w) X.A (eval e X.env) (EP X pins σ Q) X.xe s
noncomputable def PT (X : Cx) (e : Expr) (t : TT) : Prop :=
  ∀ (pins : List (Addr × Obj)) (s : Shared) (σ : St) (H : Hp) (Q : Bool → Hp → Prop), Inv X pins σ H s → t σ H Q → wpAny (model X.prog X.w) X.A (isTrue e X.env (eval e X.env)) (TP X pins σ Q) X.xe s
noncomputable def PW (X : Cx) (e : Expr) (t : TT) : Prop :=
  ∀ (whole : Sem Value) (pins : List (Addr × Obj)) (s : Shared) (σ : St) (H : Hp) (Q : Bool → Hp → Prop), Inv X pins σ H s → t σ H Q → wpAny (model X.prog X.w) X.A (isTrue e X.env whole) (TP X pins σ Q) X.xe s
theorem PW.pt {X : Cx} {e : Expr} {t : TT} (h : PW X e t) : PT X e t := h _
noncomputable def PA (X : Cx) (es : List Expr) (t : TA) : Prop :=
  ∀ (pos : Pos) (pins : List (Addr × Obj)) (s : Shared) (σ : St) (H : Hp) (Q : List V → Hp → Prop), Inv X pins σ H s → t σ H Q → wpAny (model X.prog X.w) X.A (spliced (backTo pos (starEach es X.env))) (AP X pins σ Q) X.xe s
noncomputable def PS (X : Cx) (st : Stmt) (t : TS) : Prop :=
  ∀ (pins : List (Addr × Obj)) (s : Shared) (σ : St) (H : Hp) (D : Ends), Inv X pins σ H s → t D σ H → wpAny (model X.prog X.w) X.A (exec st X.env) (SP X pins D) X.xe s
noncomputable def PSs (X : Cx) (st : List Stmt) (t : TS) : Prop :=
  ∀ (pins : List (Addr × Obj)) (s : Shared) (σ : St) (H : Hp) (D : Ends), Inv X pins σ H s → t D σ H → wpAny (model X.prog X.w) X.A (execs st X.env) (SP X pins D) X.xe s
theorem thn {α : Type} {t : Sem α} {Q Q' : α → Shared → Prop} {M : Model} {A : Around} {E : Value → Shared → Prop} {s : Shared} (h : wpAny M A t Q E s) (hQ : ∀ a s, Q a s → Q' a s) : wpAny M A t Q' E s := wpAny_mono h hQ fun _ _ x => x
end L2
namespace L2
open PySem PySem.Spec PyProof.Rows
section
variable {X : Cx}
inductive tVar (i : Nat) (σ : St) (H : Hp) (Q : VK) : Prop
  | mk (v : V) (e : σ[i]? = some (some v)) (q : Q v H) : tVar i σ H Q
noncomputable def tC (v : V) : TE := fun _ H Q => Q v H
theorem pe_var {i : Nat} {x : Str} {pos : Pos} (hN : X.N[i]? = some x) (hv : Vis X.env.scope x) (hd : (x == ("__debug__" : Str)) = false := by decide) (hcd : (x == ("__classdict__" : Str)) = false := by decide) : PE X (.Name x pos) (tVar i) := by
  intro pins s σ H Q I h
  obtain ⟨v, e, h⟩ := h
  obtain ⟨m, hn, hl⟩ := I.loc
  obtain ⟨u, r, l⟩ := hl i x v hN e hv
  have fin : EP X pins σ Q u s := ⟨v, H, I, r, h⟩
  rcases l with ⟨hk, hm⟩ | ⟨hk, c, hc, hcell⟩
  · exact wpAny_Name (wpAny_loadName_local I.ok.kind hk hn hm fin) hd
  · rcases hk with hk | hk
    · exact wpAny_Name (wpAny_loadName_cell I.ok.kind hk hc hcell fin) hd
    · exact wpAny_Name (wpAny_loadName_free I.ok.kind hk hc hcell fin hcd) hd
theorem pe_int {i j pos} : PE X (.Constant (.int i) j pos) (tC (.int i)) := fun _ _ _ H _ I h => wpAny_Constant_int ⟨.int i, H, I.tok _, ⟨_, rfl⟩, h⟩
theorem pe_bl {b j pos} : PE X (.Constant (.bool b) j pos) (tC (.bl b)) := fun _ _ _ H _ I h => Constant_bool ⟨.bl b, H, I, rfl, h⟩
theorem pe_non {j pos} : PE X (.Constant .none j pos) (tC .non) := fun _ _ _ H _ I h => Constant_none ⟨.non, H, I, rfl, h⟩
theorem pe_str {x j pos} : PE X (.Constant (.str x) j pos) (tC (.str x)) := fun _ _ _ H _ I h => Calls.Constant_str ⟨.str x, H, I.tok _, ⟨_, rfl⟩, h⟩
noncomputable def Gl (X : Cx) (x : Str) : Prop := X.env.kindOf x = some .globalImplicit
theorem ld_glob {E : Value → Shared → Prop} {pins : List (Addr × Obj)} {s : Shared} {σ : St} {H : Hp} {x : Str} {u : Value} {pos : Pos} {Q : Value → Shared → Prop} (I : Inv X pins σ H s) (hg : Gl X x) (hm : X.mg x = some u) (h : Q u s)
    (hd : (x == ("__debug__" : Str)) = false := by decide) : wpAny (model X.prog X.w) X.A (eval (.Name x pos) X.env) Q E s :=
  Calls.Name_function_global I.ok.kind hg (Calls.loadGlobal_global (by rw [I.ok.glob]; exact I.mod.glob.keeps I.bk) hm h) hd
theorem ld_blt {E : Value → Shared → Prop} {pins : List (Addr × Obj)} {s : Shared} {σ : St} {H : Hp} {x : Str} {u : Value} {pos : Pos} {Q : Value → Shared → Prop} (I : Inv X pins σ H s) (hg : Gl X x) (hm : X.mg x = none) (hv : bootBuiltins x = some u) (h : Q u s)
    (hn : x ≠ "__name__" := by decide) (hd : (x == ("__debug__" : Str)) = false := by decide) : wpAny (model X.prog X.w) X.A (eval (.Name x pos) X.env) Q E s := by
  obtain ⟨mb, h1, h2⟩ := I.mod.blt
  exact Calls.Name_function_global I.ok.kind hg (Calls.loadGlobal_builtin (by rw [I.ok.glob]; exact I.mod.glob.keeps I.bk) hm (by rw [I.ok.blt]; exact h1.keeps I.bk) ((h2 x hn).trans hv) h) hd
theorem pe_glob {x : Str} {v : V} {u : Value} {pos : Pos} (hg : Gl X x) (hm : X.mg x = some u) (r : RelV v u) (hd : (x == ("__debug__" : Str)) = false := by decide) : PE X (.Name x pos) (tC v) :=
  fun _ _ _ H _ I h => ld_glob I hg hm ⟨v, H, I, r, h⟩ hd
theorem pe_bltn {x : Str} {v : V} {u : Value} {pos : Pos} (hg : Gl X x) (hm : X.mg x = none) (hv : bootBuiltins x = some u) (r : RelV v u) (hn : x ≠ "__name__" := by decide) (hd : (x == ("__debug__" : Str)) = false := by decide) : PE X (.Name x pos) (tC v) :=
  fun _ _ _ H _ I h => ld_blt I hg hm hv ⟨v, H, I, r, h⟩ hn hd
variable {a b : Expr} {ta tb : TE} {pos : Pos}
inductive isBl (Q : Bool → Hp → Prop) (x : V) (H : Hp) : Prop
  | mk (c : Bool) (e : x = .bl c) (q : Q c H) : isBl Q x H
noncomputable def tB (t : TE) : TT := fun σ H Q => t σ H (isBl Q)
theorem pt_val {e : Expr} {t : TE} (h : PE X e t) (he : ∀ whole, isTrue e X.env whole = (do let v ← whole; standAt e.pos; holding [v] (truthy v)) := by intro _; rfl) : PT X e (tB t) := by
  intro pins s σ H Q I hw
  refine isTrue_plain (thn (h pins s σ H _ I hw) fun v s1 ⟨x, H1, I1, r1, q1⟩ => ?_) (he _)
  obtain ⟨d, rfl, q⟩ := q1
  cases r1
  exact wpAny_truthy_bool ⟨H1, I1, q⟩
variable {tA tB' : TT} {rest : List Expr}
noncomputable def tAnd (t u : TT) : TT := fun σ H Q => t σ H fun c H1 => if c = true then u σ H1 Q else Q false H1
noncomputable def tOr (t u : TT) : TT := fun σ H Q => t σ H fun c H1 => if c = true then Q true H1 else u σ H1 Q
noncomputable def tNot (t : TT) : TT := fun σ H Q => t σ H fun c H1 => Q (!c) H1
theorem pw_and1 (ha : PT X a tA) : PW X (.BoolOp .And [a] pos) tA := by
  intro wh pins s σ H Q I h
  refine isTrue_and (thn (ha pins s σ H Q I h) fun c s1 e => ?_)
  cases c with
  | true => exact isTrue_and_nil e
  | false => exact e
theorem pw_or1 (ha : PT X a tA) : PW X (.BoolOp .Or [a] pos) tA := by
  intro wh pins s σ H Q I h
  refine isTrue_or (thn (ha pins s σ H Q I h) fun c s1 e => ?_)
  cases c with
  | false => exact isTrue_or_nil e
  | true => exact e
theorem pw_and (ha : PT X a tA) (hb : PW X (.BoolOp .And (b :: rest) pos) tB') : PW X (.BoolOp .And (a :: b :: rest) pos) (tAnd tA tB') := by
  intro wh pins s σ H Q I h
  refine isTrue_and (thn (ha pins s σ H _ I h) fun c s1 ⟨H1, I1, q1⟩ => ?_)
  cases c with
  | true => exact hb wh pins s1 σ H1 Q I1 q1
  | false => exact ⟨H1, I1, q1⟩
theorem pw_or (ha : PT X a tA) (hb : PW X (.BoolOp .Or (b :: rest) pos) tB') : PW X (.BoolOp .Or (a :: b :: rest) pos) (tOr tA tB') := by
  intro wh pins s σ H Q I h
  refine isTrue_or (thn (ha pins s σ H _ I h) fun c s1 ⟨H1, I1, q1⟩ => ?_)
  cases c with
  | true => exact ⟨H1, I1, q1⟩
  | false => exact hb wh pins s1 σ H1 Q I1 q1
theorem pt_not (ha : PT X a tA) : PT X (.UnaryOp .Not a pos) (tNot tA) := by
  intro pins s σ H Q I h
  exact isTrue_not (ha pins s σ H (fun c H1 => Q (!c) H1) I h)
noncomputable def tAndV (ta tb : TE) : TE := fun σ H Q => ta σ H fun x H1 => ∃ c, x = .bl c ∧ if c = true then tb σ H1 Q else Q (.bl false) H1
noncomputable def tOrV (ta tb : TE) : TE := fun σ H Q => ta σ H fun x H1 => ∃ c, x = .bl c ∧ if c = true then Q (.bl true) H1 else tb σ H1 Q
noncomputable def tNotV (ta : TE) : TE := fun σ H Q => ta σ H fun x H1 => ∃ c, x = .bl c ∧ Q (.bl (!c)) H1
theorem pe_one {op} {t : TE} (h : PE X a t) : PE X (.BoolOp op [a] pos) t := fun pins s σ H Q I hw => BoolOp_one (h pins s σ H Q I hw)
theorem pe_and (ha : PE X a ta) (hb : PE X (.BoolOp .And (b :: rest) pos) tb) : PE X (.BoolOp .And (a :: b :: rest) pos) (tAndV ta tb) := by
  intro pins s σ H Q I h
  refine BoolOp_and (thn (ha pins s σ H _ I h) fun v s1 ⟨x, H1, I1, r1, q1⟩ => ?_)
  obtain ⟨c, rfl, q1⟩ := q1
  cases r1
  refine wpAny_truthy_bool ?_
  cases c with
  | true => exact hb pins s1 σ H1 Q I1 q1
  | false => exact ⟨.bl false, H1, I1, rfl, q1⟩
theorem pe_or (ha : PE X a ta) (hb : PE X (.BoolOp .Or (b :: rest) pos) tb) : PE X (.BoolOp .Or (a :: b :: rest) pos) (tOrV ta tb) := by
  intro pins s σ H Q I h
  refine BoolOp_or (thn (ha pins s σ H _ I h) fun v s1 ⟨x, H1, I1, r1, q1⟩ => ?_)
  obtain ⟨c, rfl, q1⟩ := q1
  cases r1
  refine wpAny_truthy_bool ?_
  cases c with
  | false => exact hb pins s1 σ H1 Q I1 q1
  | true => exact ⟨.bl true, H1, I1, rfl, q1⟩
theorem pe_not (ha : PE X a ta) : PE X (.UnaryOp .Not a pos) (tNotV ta) := by
  intro pins s σ H Q I h
  refine UnaryOp_ (thn (ha pins s σ H _ I h) fun v s1 ⟨x, H1, I1, r1, q1⟩ => ?_)
  obtain ⟨c, rfl, q1⟩ := q1
  cases r1
  exact not_of (wpAny_truthy_bool ⟨.bl (!c), H1, I1, rfl, q1⟩)
noncomputable def tIf (t : TT) (ta tb : TE) : TE := fun σ H Q => t σ H fun c H1 => if c = true then ta σ H1 Q else tb σ H1 Q
theorem pe_ifExp {c : Expr} (hc : PT X c tA) (ha : PE X a ta) (hb : PE X b tb) : PE X (.IfExp c a b pos) (tIf tA ta tb) := by
  intro pins s σ H Q I h
  refine wpAny_IfExp (thn (hc pins s σ H _ I h) fun d s1 ⟨H1, I1, q1⟩ => ?_)
  cases d with
  | true => exact ha pins s1 σ H1 Q I1 q1
  | false => exact hb pins s1 σ H1 Q I1 q1
end
end L2
namespace L2
open PySem PySem.Spec PyProof.Rows
noncomputable def SqL (K : PySem.W.Frag) (H : Hp) (a : Addr) (xs : List V) : Prop :=
  Rd H a (.lst xs) ∨
    ∃ (o : Obj) (its : Array Value) (n : Nat), K.lookup a = some o ∧ o.cls = .type "list" ∧ o.dict = none ∧ o.data = .seq its n ∧ its.size ≤ sizeLine ∧ Vals xs its.toList
noncomputable def SqT (K : PySem.W.Frag) (H : Hp) (a : Addr) (xs : List V) : Prop :=
  Rd H a (.tup xs) ∨
    ∃ (o : Obj) (its : Array Value) (n : Nat), K.lookup a = some o ∧ o.cls = .type "tuple" ∧ o.data = .seq its n ∧ its.size ≤ sizeLine ∧ Vals xs its.toList
noncomputable def absV : Value → Option V
  | .none => some .non
  | .bool b => some (.bl b)
  | .int i _ => some (.int i)
  | .str x _ => some (.str x)
  | .bytes b _ => some (.byt b)
  | .float b _ => some (.flt b)
  | .ref a => some (.ref a)
  | .type n => some (.ty n)
  | _ => none
theorem RelV.abs {x : V} {u : Value} (r : RelV x u) : absV u = some x := by
  cases x with
  | non => cases r; rfl
  | bl _ => cases r; rfl
  | int _ => obtain ⟨t, rfl⟩ := r; rfl
  | str _ => obtain ⟨t, rfl⟩ := r; rfl
  | byt _ => obtain ⟨t, rfl⟩ := r; rfl
  | flt _ => obtain ⟨t, rfl⟩ := r; rfl
  | ref _ => cases r; rfl
  | ty _ => cases r; rfl
theorem RelV.inj {x y : V} {u : Value} (r : RelV x u) (q : RelV y u) : x = y := Option.some.inj (r.abs.symm.trans q.abs)
theorem Vals.inj {xs ys : List V} {us : List Value} (h : Vals xs us) (h' : Vals ys us) : xs = ys := by
  induction h generalizing ys with
  | nil => cases h'; rfl
  | cons r t ih => cases h' with | cons r' t' => rw [r.inj r', ih t']
section
variable {X : Cx} {pins : List (Addr × Obj)} {σ : St} {H : Hp} {s : Shared} {a : Addr} {xs ys : List V}
theorem SqL.of {K : PySem.W.Frag} (h : H a = some (.lst xs)) : SqL K H a xs := .inl (.inl h)
theorem SqT.of {K : PySem.W.Frag} (h : H a = some (.tup xs)) : SqT K H a xs := .inl (.inl h)
theorem Inv.list (I : Inv X pins σ H s) (h : SqL X.K H a xs) : ∃ its : List Value, Vals xs its ∧ PlainL s.heap a its.toArray ∧ xs.length ≤ sizeLine := by
  rcases h with h | ⟨o, its, n, hk, hc, hd, hs, hz, r⟩
  · obtain ⟨z, its, n, r, e⟩ := h.ok I.hok
    exact ⟨its, r, ⟨_, n, e, rfl, rfl, rfl⟩, z⟩
  · refine ⟨its.toList, r, ⟨o, n, I.kIn a o hk, hc, hd, by simpa using hs⟩, ?_⟩
    have e := r.length
    simp only [Array.length_toList] at e
    omega
theorem Inv.tuple (I : Inv X pins σ H s) (h : SqT X.K H a xs) : ∃ its : List Value, Vals xs its ∧ IsTup s.heap a its.toArray ∧ xs.length ≤ sizeLine := by
  rcases h with h | ⟨o, its, n, hk, hc, hs, hz, r⟩
  · obtain ⟨z, its, r, p⟩ := h.ok I.hok
    exact ⟨its, r, p, z⟩
  · refine ⟨its.toList, r, ⟨o, I.kIn a o hk, hc, n, by simpa using hs⟩, ?_⟩
    have e := r.length
    simp only [Array.length_toList] at e
    omega
theorem Inv.list_inj (I : Inv X pins σ H s) (h : SqL X.K H a xs) (h' : SqL X.K H a ys) : xs = ys := by
  obtain ⟨its, r, ⟨o, n, e, _, _, d⟩, _⟩ := I.list h
  obtain ⟨its', r', ⟨o', n', e', _, _, d'⟩, _⟩ := I.list h'
  rw [e] at e'; cases e'
  rw [d] at d'
  injection d' with d1 _
  have : its = its' := by simpa using congrArg Array.toList d1
  subst this
  exact r.inj r'
theorem Inv.tuple_inj (I : Inv X pins σ H s) (h : SqT X.K H a xs) (h' : SqT X.K H a ys) : xs = ys := by
  obtain ⟨its, r, ⟨o, e, _, n, d⟩, _⟩ := I.tuple h
  obtain ⟨its', r', ⟨o', e', _, n', d'⟩, _⟩ := I.tuple h'
  rw [e] at e'; cases e'
  rw [d] at d'
  injection d' with d1 _
  have : its = its' := by simpa using congrArg Array.toList d1
  subst this
  exact r.inj r'
end
noncomputable abbrev Cx.wish (X : Cx) (E : Value → Shared → Prop) : Cx := { X with xe := E }
noncomputable abbrev Cx.nox (X : Cx) : Cx := X.wish fun _ _ => False
theorem Cx.Ok.wish {X : Cx} (ok : X.Ok) (E : Value → Shared → Prop) : (X.wish E).Ok :=
  ⟨ok.mod, ok.kind, ok.glob, ok.blt, ok.above, ok.inj, ok.has, ok.cab, ok.hd, ok.frames, ok.stk, ok.exf, ok.bs, ok.bsz, ok.noex, ok.exfs, ok.funs, ok.frf⟩
theorem Cx.Ok.unwish {X : Cx} {E : Value → Shared → Prop} (ok : (X.wish E).Ok) : X.Ok :=
  ⟨ok.mod, ok.kind, ok.glob, ok.blt, ok.above, ok.inj, ok.has, ok.cab, ok.hd, ok.frames, ok.stk, ok.exf, ok.bs, ok.bsz, ok.noex, ok.exfs, ok.funs, ok.frf⟩
section
variable {X : Cx} {pins : List (Addr × Obj)} {σ : St} {H : Hp} {s : Shared} {E : Value → Shared → Prop}
theorem Inv.wish (I : Inv X pins σ H s) (E : Value → Shared → Prop) : Inv (X.wish E) pins σ H s := ⟨I.ok.wish E, I.os, I.bare, I.base, I.loc, I.cell, I.free, I.freeC, I.pin, I.hok, I.len⟩
theorem Inv.unwish (I : Inv (X.wish E) pins σ H s) : Inv X pins σ H s := ⟨I.ok.unwish, I.os, I.bare, I.base, I.loc, I.cell, I.free, I.freeC, I.pin, I.hok, I.len⟩
theorem SP.unwish {D : Ends} {f : Flow} {s' : Shared} (h : SP (X.wish E) pins D f s') : SP X pins D f s' := by
  cases f with
  | next => obtain ⟨σ', H', I, q⟩ := h; exact ⟨σ', H', I.unwish, q⟩
  | brk => obtain ⟨σ', H', I, q⟩ := h; exact ⟨σ', H', I.unwish, q⟩
  | cont => obtain ⟨σ', H', I, q⟩ := h; exact ⟨σ', H', I.unwish, q⟩
  | ret u => obtain ⟨v, σ', H', I, r, q⟩ := h; exact ⟨v, σ', H', I.unwish, r, q⟩
end
section
variable {X : Cx} {st : Stmt} {rest : List Stmt} {t u : TS} {e : Expr} {te : TE} {pos : Pos}
noncomputable def tNext : TS := fun D σ H => D.nx σ H
noncomputable def tSeq (t u : TS) : TS := fun D σ H => t { D with nx := u D } σ H
theorem pss_nil : PSs X [] tNext := fun _ _ σ H _ I h => wpAny_execs_nil ⟨σ, H, I, h⟩
theorem pss_cons (h1 : PS X st t) (h2 : PSs X rest u) : PSs X (st :: rest) (tSeq t u) := by
  intro pins s σ H D I h
  refine wpAny_execs_cons (thn (h1 pins s σ H { D with nx := u D } I h) fun f s1 q => ?_)
  cases f with
  | next =>
    obtain ⟨σ', H', I', q⟩ := q
    exact h2 pins s1 σ' H' D I' q
  | ret v => exact q
  | brk => exact q
  | cont => exact q
theorem pss_one (h1 : PS X st t) : PSs X [st] t := by
  intro pins s σ H D I h
  refine wpAny_execs_cons (thn (h1 pins s σ H D I h) fun f s1 q => ?_)
  cases f with
  | next => exact wpAny_execs_nil q
  | ret v => exact q
  | brk => exact q
  | cont => exact q
theorem Inv.quiet {pins : List (Addr × Obj)} {σ : St} {H : Hp} {s : Shared} (I : Inv X pins σ H s) : interactive X.env = false := by simp [interactive, I.ok.kind]
noncomputable def tDrop (te : TE) : TS := fun D σ H => te σ H fun _ H1 => D.nx σ H1
theorem ps_expr (he : PE X e te) (hs : swapsWith e none pos.line X.env = pure false := by rfl) : PS X (.Expr e pos) (tDrop te) := by
  intro pins s σ H D I h
  exact wpAny_Expr_any (thn (he pins s σ H _ I h) fun v s1 ⟨x, H1, I1, r1, q1⟩ => ⟨σ, H1, I1, q1⟩) I.quiet hs
noncomputable def tRet (te : TE) : TS := fun D σ H => te σ H D.rt
theorem ps_ret (he : PE X e te) : PS X (.Return (some e) pos) (tRet te) := by
  intro pins s σ H D I h
  exact wpAny_Return_some (thn (he pins s σ H _ I h) fun v s1 ⟨x, H1, I1, r1, q1⟩ => ⟨x, σ, H1, I1, r1, q1⟩)
noncomputable def tIfS (c : TT) (t u : TS) : TS := fun D σ H => c σ H fun b H1 => if b = true then t D σ H1 else u D σ H1
theorem ps_if {c : Expr} {a b : List Stmt} {tc : TT} (hc : PT X c tc) (ha : PSs X a t) (hb : PSs X b u) : PS X (.If c a b pos) (tIfS tc t u) := by
  intro pins s σ H D I h
  refine wpAny_If (thn (hc pins s σ H _ I h) fun d s1 ⟨H1, I1, q1⟩ => ?_)
  cases d with
  | true => exact ha pins s1 σ H1 D I1 q1
  | false => exact hb pins s1 σ H1 D I1 q1
end
noncomputable abbrev TG := V → St → Hp → (St → Hp → Prop) → Prop
noncomputable abbrev TGs := List V → St → Hp → (St → Hp → Prop) → Prop
noncomputable def PG (X : Cx) (target : Expr) (t : TG) : Prop :=
  ∀ (pins : List (Addr × Obj)) (s : Shared) (σ : St) (H : Hp) (v : V) (u : Value) (Q : St → Hp → Prop), Inv X pins σ H s → RelV v u → t v σ H Q →
    wpAny (model X.prog X.w) X.A (assign target X.env u) (fun _ s' => ∃ σ' H', Inv X pins σ' H' s' ∧ Q σ' H') X.xe s
noncomputable def PGs (X : Cx) (ts : List Expr) (t : TGs) : Prop :=
  ∀ (pins : List (Addr × Obj)) (s : Shared) (σ : St) (H : Hp) (vs : List V) (us : List Value) (Q : St → Hp → Prop), Inv X pins σ H s → Vals vs us → t vs σ H Q →
    wpAny (model X.prog X.w) X.A (assignInOrder ((assignEach ts X.env).map (·.2)) us) (fun _ s' => ∃ σ' H', Inv X pins σ' H' s' ∧ Q σ' H') X.xe s
noncomputable abbrev TSet := V → V → V → Hp → (Hp → Prop) → Prop
noncomputable def PSet (X : Cx) (t : TSet) : Prop :=
  ∀ (pins : List (Addr × Obj)) (s : Shared) (σ : St) (H : Hp) (o i v : V) (ov iv u : Value) (Q : Hp → Prop), Inv X pins σ H s → RelV o ov → RelV i iv → RelV v u → t o i v H Q →
    wpAny (model X.prog X.w) X.A (setItem ov iv u) (fun _ s' => ∃ H', Inv X pins σ H' s' ∧ Q H') X.xe s
section
variable {X : Cx} {pos : Pos}
noncomputable def gName (i : Nat) : TG := fun v σ H Q => Q (σ.set i (some v)) H
theorem pg_name {i : Nat} {x : Str} (hN : X.N.Nodup) (hi : X.N[i]? = some x) (hx : Loc X.env.scope x) (hf : X.fn x = true ∨ X.env.scope.names.lookup x = some .local := by first | exact .inl rfl | exact .inr rfl | assumption) : PG X (.Name x pos) (gName i) := by
  intro pins s σ H v u Q I r h
  exact wpAny_assign_Name (store_ok I hN hi hx r (fun s' I' => ⟨_, H, I', h⟩) hf)
noncomputable def gNil : TGs := fun vs σ H Q => vs = [] ∧ Q σ H
noncomputable def gCons (t : TG) (u : TGs) : TGs := fun vs σ H Q => ∃ v r, vs = v :: r ∧ t v σ H fun σ' H' => u r σ' H' Q
theorem pgs_nil : PGs X [] gNil := by
  intro pins s σ H vs us Q I r h
  obtain ⟨e, h⟩ := h
  subst e
  cases r
  exact assignInOrder_nil ⟨σ, H, I, h⟩
theorem pgs_cons {e : Expr} {es : List Expr} {t : TG} {u : TGs} (h1 : PG X e t) (h2 : PGs X es u)
    (hs : (assignEach (e :: es) X.env).map (·.2) = assign e X.env :: (assignEach es X.env).map (·.2) := by rfl) : PGs X (e :: es) (gCons t u) := by
  intro pins s σ H vs us Q I r h
  obtain ⟨v, vr, e1, h⟩ := h
  subst e1
  cases r with
  | cons r rr =>
    rw [hs]
    refine assignInOrder_cons (thn (h1 pins s σ H _ _ _ I r h) fun _ s1 ⟨σ1, H1, I1, q1⟩ => ?_)
    exact h2 pins s1 σ1 H1 _ _ Q I1 rr q1
noncomputable def gTup (K : PySem.W.Frag) (n : Nat) (t : TGs) : TG := fun v σ H Q => ∃ a xs, v = .ref a ∧ SqT K H a xs ∧ xs.length = n ∧ t xs σ H Q
theorem pg_tup {es : List Expr} {k : Nat} {t : TGs} {n : Nat} (hc : X.calm = true) (h : PGs X es t)
    (hn : (assignEach es X.env).length = n := by rfl) (hst : (assignEach es X.env).findIdx? (·.1) = none := by rfl) : PG X (.Tuple es k pos) (gTup X.K n t) := by
  intro pins s σ H v u Q I r hw
  obtain ⟨a, xs, e1, hq, hl, hw⟩ := hw
  subst e1
  cases r
  obtain ⟨its, rv, ht, hz⟩ := I.tuple hq
  refine assign_Tuple_tuple (I.ok.hd hc) ht (by simp [hn, ← hl, rv.length]) hst fun h' hx => ?_
  have I1 : Inv X pins σ H { s with heap := h' } := I.kept (t' := s.toks) fun b o e => hx b o (Nat.ne_of_lt (Heap.lt_size e)) e
  exact h pins _ σ H xs _ Q I1 (by simpa using rv) hw
noncomputable def gSub (to ti : TE) (t : TSet) : TG := fun v σ H Q => to σ H fun o H1 => ti σ H1 fun i H2 => t o i v H2 fun H3 => Q σ H3
theorem pg_sub {o i : Expr} {to ti : TE} {t : TSet} (ho : PE X o to) (hi : PE X i ti) (hs : PSet X t)
    (ha : ∀ v, assign (.Subscript o i pos) X.env v = (do
      let ov ← holding [v] (eval o X.env)
      let iv ← holding [v, ov] (eval i X.env)
      standAt pos
      holding [v, ov, iv] (setItem ov iv v)
      release [v, ov, iv] []) := by intro _; rfl) : PG X (.Subscript o i pos) (gSub to ti t) := by
  intro pins s σ H v u Q I r h
  rw [ha]
  refine wpAny_bind (wpAny_holding (thn (ho pins s σ H _ I h) fun ov s1 ⟨x, H1, I1, r1, q1⟩ => ?_))
  refine wpAny_bind (wpAny_holding (thn (hi pins s1 σ H1 _ I1 q1) fun iv s2 ⟨y, H2, I2, r2, q2⟩ => ?_))
  refine wpAny_bind (wpAny_standAt (wpAny_bind (wpAny_holding (thn (hs pins s2 σ H2 x y v ov iv u _ I2 r1 r2 r q2) fun _ s3 ⟨H3, I3, q3⟩ => ?_))))
  exact wpAny_release ⟨σ, H3, I3, q3⟩
noncomputable def tAsg (te : TE) (g : TG) : TS := fun D σ H => te σ H fun x H1 => g x σ H1 D.nx
theorem ps_asg {tg e : Expr} {te : TE} {g : TG} (he : PE X e te) (hg : PG X tg g) (hs : swapsWithSole [tg] e pos.line X.env = pure false := by rfl) (hw : swappedStores [tg] e X.env = pure none := by rfl)
    (h1 : (assignEach [tg] X.env).map (·.2) = [assign tg X.env] := by rfl) : PS X (.Assign [tg] e pos) (tAsg te g) := by
  intro pins s σ H D I h
  refine wpAny_Assign_stores (thn (he pins s σ H _ I h) fun v s1 ⟨x, H1, I1, r1, q1⟩ => ?_) hs hw
  rw [h1]
  exact thn (hg pins s1 σ H1 x v _ I1 r1 q1) fun _ s2 q => q
theorem ps_set {i : Nat} {x : Str} {e : Expr} {te : TE} {pos' : Pos} (hN : X.N.Nodup) (hi : X.N[i]? = some x) (hx : Loc X.env.scope x) (he : PE X e te) (hs : swapsWith e (some (.Name x pos')) pos.line X.env = pure false := by rfl) (hf : X.fn x = true ∨ X.env.scope.names.lookup x = some .local := by first | exact .inl rfl | exact .inr rfl | assumption) :
    PS X (.Assign [.Name x pos'] e pos) (tAsg te (gName i)) := by
  intro pins s σ H D I h
  refine wpAny_Assign_Name (thn (he pins s σ H _ I h) fun v s1 ⟨y, H1, I1, r1, q1⟩ => ?_) hs
  exact store_ok I1 hN hi hx r1 (fun s2 I2 => ⟨_, H1, I2, q1⟩) hf
end
section
variable {X : Cx} {pos : Pos}
inductive tWhile (c : TT) (tb : TS) (D : Ends) (σ0 : St) (H0 : Hp) : Prop
  | mk (W : Nat → St → Hp → Prop) (h0 : ∃ m, W m σ0 H0) (h : ∀ m σ H, W m σ H → c σ H fun b H1 => if b = true then ∃ N : St → Hp → Prop, (∀ σ' H', N σ' H' → ∃ m', m' < m ∧ W m' σ' H') ∧ tb { D with nx := N, ct := N, bk := D.nx } σ H1 else D.nx σ H1) : tWhile c tb D σ0 H0
theorem ps_while {c : Expr} {body : List Stmt} {tc : TT} {tb : TS} (hp : PassesOwn (model X.prog X.w) X.A X.env X.xe) (hc : PT X c tc) (hb : PSs X body tb) : PS X (.While c body [] pos) (tWhile tc tb) := by
  intro pins s σ H D I h
  obtain ⟨W, ⟨m0, w0⟩, turn⟩ := h
  refine wpAny_While (codeAny_whileLoop (fun n s' => ∃ σ' H', Inv X pins σ' H' s' ∧ W n σ' H') ?_ m0 ⟨σ, H, I, w0⟩)
  rintro n s1 ⟨σ1, H1, I1, w1⟩
  refine wpAny_passesOwn hp (thn (hc pins s1 σ1 H1 _ I1 (turn n σ1 H1 w1)) fun b s2 ⟨H2, I2, q2⟩ => ?_)
  cases b with
  | true =>
    obtain ⟨N, hN, q2⟩ := q2
    rw [if_pos rfl]
    refine wpAny_passesOwn hp (thn (hb pins s2 σ1 H2 _ I2 q2) fun f s3 q3 => ?_)
    cases f with
    | next =>
      obtain ⟨σ3, H3, I3, n3⟩ := q3
      obtain ⟨m', hm, w3⟩ := hN σ3 H3 n3
      exact ⟨m', hm, σ3, H3, I3, w3⟩
    | cont =>
      obtain ⟨σ3, H3, I3, n3⟩ := q3
      obtain ⟨m', hm, w3⟩ := hN σ3 H3 n3
      exact ⟨m', hm, σ3, H3, I3, w3⟩
    | brk => exact q3
    | ret v => exact q3
  | false =>
    rw [if_neg Bool.false_ne_true]
    exact wpAny_execs_nil ⟨σ1, H2, I2, q2⟩
end
structure It where
  go : Nat → Hp → Prop
  yld : Nat → Hp → V → Hp → Prop
  stop : Nat → Hp → Prop
noncomputable def FpOk (X : Cx) (pins : List (Addr × Obj)) (H : Hp) (b : Addr) : Prop :=
  H b = none ∧ b ≠ X.env.locals ∧ b ∉ X.fs ∧ (b ∈ X.ex ∨ X.s₀.heap.objs.size ≤ b) ∧ (∀ x c, X.env.cells.lookup x = some c → c ≠ b) ∧ ∀ p ∈ X.pn ++ pins, p.1 ≠ b
theorem Inv.fpOk {X : Cx} {pins : List (Addr × Obj)} {σ : St} {H H' : Hp} {s : Shared} {b : Addr} (I : Inv X pins σ H s) (hb : s.heap.objs.size ≤ b) (hn : H' b = none) : FpOk X pins H' b := by
  refine ⟨hn, Nat.ne_of_gt (Nat.lt_of_lt_of_le I.lt hb), I.nofs hb, .inr (Nat.le_trans I.sz hb), fun x c e z => ?_, fun p hp z => ?_⟩
  · obtain ⟨v, q⟩ := I.cell x c e
    exact absurd (Nat.lt_of_lt_of_le q.lt (by rw [z]; exact hb)) (Nat.lt_irrefl _)
  · exact absurd (Nat.lt_of_lt_of_le (Heap.lt_size (I.pin p hp).1) (by rw [z]; exact hb)) (Nat.lt_irrefl _)
structure Turn (P : Program) (w : World) (K : PySem.W.Frag) (tg : Expr) (J : It) (fp : List Addr) (it : Addr) (tn : Nat → Heap → Prop) : Prop where
  mem : it ∈ fp
  obj : ∀ i h, tn i h → ∀ b ∈ fp, ∃ o, h.get? b = some o ∧ ∀ v, o.data ≠ .cell v
  keep : ∀ i h h', tn i h → (∀ b ∈ fp, ∀ o, h.get? b = some o → h'.get? b = some o) → tn i h'
  item : ∀ (X : Cx), X.prog = P → X.w = w → X.K = K → X.calm = true → ∀ (i : Nat) (pins : List (Addr × Obj)) (s : Shared) (σ : St) (H : Hp) (E : Value → Shared → Prop), Inv X pins σ H s → (∀ b ∈ fp, FpOk X pins H b) → tn i s.heap → J.go i H →
    wpAny (model P w) X.A (pyNext (.ref it)) (fun r s1 => ∃ u, r = some u ∧
      wpAny (model P w) X.A (letOwnedTupleGo tg (.ref it) u) (fun _ s2 => ∃ x H', Inv X pins σ H' s2 ∧ RelV x u ∧ J.yld i H x H' ∧ tn (i + 1) s2.heap ∧ ∀ b ∈ fp, H' b = none) E s1) E s
  done : ∀ (X : Cx), X.prog = P → X.w = w → X.K = K → X.calm = true → ∀ (i : Nat) (pins : List (Addr × Obj)) (s : Shared) (σ : St) (H : Hp) (E : Value → Shared → Prop), Inv X pins σ H s → (∀ b ∈ fp, FpOk X pins H b) → tn i s.heap → J.stop i H →
    wpAny (model P w) X.A (pyNext (.ref it)) (fun r s1 => r = none ∧ Inv X pins σ H s1) E s
  self : ∀ (A : Around) (i : Nat) (s : Shared) (Q : Value → Shared → Prop) (E : Value → Shared → Prop), tn i s.heap → Q (.ref it) s → wpAny (model P w) A (pyIter (.ref it)) Q E s
noncomputable abbrev TI := St → Hp → (It → Hp → Prop) → Prop
noncomputable def PIE (X : Cx) (pins : List (Addr × Obj)) (σ : St) (tg : Expr) (R : It → Hp → Prop) (itv : Value) (s2 : Shared) : Prop :=
  ∃ (it : Addr) (fp : List Addr) (tn : Nat → Heap → Prop) (J : It) (H' : Hp), itv = .ref it ∧ Inv X pins σ H' s2 ∧ Turn X.prog X.w X.K tg J fp it tn ∧ tn 0 s2.heap ∧ (∀ b ∈ fp, FpOk X pins H' b) ∧ R J H'
noncomputable def PI (X : Cx) (tg iter : Expr) (wi : TI) : Prop :=
  ∀ (pins : List (Addr × Obj)) (s : Shared) (σ : St) (H : Hp) (R : It → Hp → Prop), Inv X pins σ H s → wi σ H R →
    wpAny (model X.prog X.w) X.A (eval iter X.env) (fun v s1 => wpAny (model X.prog X.w) X.A (pyIter v) (PIE X pins σ tg R) X.xe s1) X.xe s
theorem go_of {M : Model} {A : Around} {E : Value → Shared → Prop} {s : Shared} {tg : Expr} {it : Addr} {u : Value} {o : Obj} {n : String} {vs : Array Value} {Q : Unit → Shared → Prop} (ho : s.heap.get? it = some o) (hc : o.cls = .type n) (hd : o.data = .fields vs)
    (hn : ["enumerate", "zip", "dict_itemiterator", "dict_reverseitemiterator", "odict_iterator", "itertools.zip_longest", "itertools.pairwise"].contains n = false) (hQ : Q () s) : wpAny M A (letOwnedTupleGo tg (.ref it) u) Q E s := by
  unfold letOwnedTupleGo
  cases tg <;> first
    | exact wpAny_pure hQ
    | (cases u <;> first
        | exact wpAny_pure hQ
        | (refine wpAny_bind (wpAny_load ho ?_)
           rw [hc, hd]
           show wpAny M A (if (["enumerate", "zip", "dict_itemiterator", "dict_reverseitemiterator", "odict_iterator", "itertools.zip_longest", "itertools.pairwise"].contains n && vs[0]? == some (rawInt _)) = true then _ else _) Q E s
           rw [if_neg (by intro h; rw [hn, Bool.false_and] at h; cases h)]
           exact wpAny_pure hQ))
noncomputable def Itl (K : PySem.W.Frag) (a : Addr) : It :=
  ⟨fun i H => ∃ xs x, SqL K H a xs ∧ xs[i]? = some x, fun i H x H' => H' = H ∧ ∀ xs, SqL K H a xs → xs[i]? = some x, fun i H => ∃ xs, SqL K H a xs ∧ xs.length ≤ i⟩
noncomputable def Itt (K : PySem.W.Frag) (a : Addr) : It :=
  ⟨fun i H => ∃ xs x, SqT K H a xs ∧ xs[i]? = some x, fun i H x H' => H' = H ∧ ∀ xs, SqT K H a xs → xs[i]? = some x, fun i H => ∃ xs, SqT K H a xs ∧ xs.length ≤ i⟩
noncomputable def Itr (lo : Int) (n : Nat) : It := ⟨fun i _ => i < n, fun i H x H' => H' = H ∧ x = .int (lo + i), fun i _ => n ≤ i⟩
theorem turn_list {P : Program} {w : World} {K : PySem.W.Frag} {tg : Expr} (a it : Addr) : Turn P w K tg (Itl K a) [it] it (fun i h => h.IsListIter it a i) where
  mem := by simp
  obj := fun i h st b hb => by
    have e : b = it := by simpa using hb
    subst e
    obtain ⟨o, e, c, d⟩ := st
    exact ⟨o, e, fun v z => by rw [d] at z; cases z⟩
  keep := fun i h h' st k => st.at fun o e => k it (by simp) o e
  item := by
    intro X hP hw hK hc i pins s σ H E I hf st hg
    subst hP hw hK
    obtain ⟨xs, x, hq, hx⟩ := hg
    obtain ⟨its, rv, p, hz⟩ := I.list hq
    obtain ⟨u, hu, ru⟩ := rv.get hx
    obtain ⟨f0, f1, f2, f3, f4, f5⟩ := hf it (by simp)
    refine wpAny_pyNext_list_item st p.isList (x := u) (by simpa using hu) fun h' st' sb => ?_
    have I1 : Inv X pins σ H { s with heap := h' } := I.turned (t' := s.toks) (fun b o hb e => (sb.2 b hb).trans e) f0 f1 f3 f4 f5
    obtain ⟨o, e, c, d⟩ := id st'
    exact ⟨u, rfl, go_of (s := { s with heap := h' }) e c d (by decide) ⟨x, H, I1, ru, ⟨rfl, fun ys hy => by rw [I.list_inj hy hq]; exact hx⟩, st', fun b hb => (hf b hb).1⟩⟩
  done := by
    intro X hP hw hK hc i pins s σ H E I hf st hg
    subst hP hw hK
    obtain ⟨xs, hq, hx⟩ := hg
    obtain ⟨its, rv, p, hz⟩ := I.list hq
    obtain ⟨f0, f1, f2, f3, f4, f5⟩ := hf it (by simp)
    have hl := rv.length
    exact wpAny_pyNext_list_end (I.ok.hd hc) st p.isList (by simp; omega) fun h' eb => ⟨rfl, I.turned (t' := s.toks) (fun b o hb e => eb b o hb e) f0 f1 f3 f4 f5⟩
  self := fun _ _ _ _ _ st h => wpAny_pyIter_listiter st h
theorem turn_range {P : Program} {w : World} {K : PySem.W.Frag} {tg : Expr} (it : Addr) (lo : Int) (n : Nat) : Turn P w K tg (Itr lo n) [it] it (fun i h => IsRangeIter h it (lo + (i : Nat) * 1) ((n : Int) - (i : Nat)) 1) where
  mem := by simp
  obj := fun i h st b hb => by
    have e : b = it := by simpa using hb
    subst e
    exact ⟨_, st, fun v z => by
      have z' : Data.fields _ = Data.cell v := z
      cases z'⟩
  keep := fun i h h' st k => k it (by simp) _ st
  item := by
    intro X hP hw hK hc i pins s σ H E I hf st hg
    subst hP hw hK
    obtain ⟨f0, f1, f2, f3, f4, f5⟩ := hf it (by simp)
    have W := Walks.range (prog := X.prog) (w := X.w) (I.ok.hd hc) it lo 1 n
    refine W.item i s _ _ hg st fun v h' tk hv st' kk => ?_
    obtain ⟨t, rfl⟩ := hv
    have I1 : Inv X pins σ H { s with heap := h', toks := tk } := I.turned (fun b o hb e => kk b o (by simpa using hb) e) f0 f1 f3 f4 f5
    refine ⟨_, rfl, go_of (s := { s with heap := h', toks := tk }) (n := "range_iterator") st' rfl rfl (by decide) ⟨.int (lo + i), H, I1, ⟨t, ?_⟩, ⟨rfl, rfl⟩, st', fun b hb => (hf b hb).1⟩⟩
    rw [Int.mul_one]
  done := by
    intro X hP hw hK hc i pins s σ H E I hf st hg
    subst hP hw hK
    obtain ⟨f0, f1, f2, f3, f4, f5⟩ := hf it (by simp)
    exact wpAny_pyNext_range_end (I.ok.hd hc) st (by have : n ≤ i := hg; omega) fun h' eb => ⟨rfl, I.turned (t' := s.toks) (fun b o hb e => eb b o hb e) f0 f1 f3 f4 f5⟩
  self := fun _ _ _ _ _ st h => wpAny_pyIter_rangeiter st h
end L2
namespace L2
open PySem PySem.Spec PyProof.Rows
section
variable {X : Cx} {tg : Expr}
noncomputable def iList (K : PySem.W.Frag) (tl : TE) : TI := fun σ H R => tl σ H fun x H1 => ∃ a, x = .ref a ∧ (∃ xs, SqL K H1 a xs) ∧ R (Itl K a) H1
theorem pi_list {l : Expr} {tl : TE} (hl : PE X l tl) : PI X tg l (iList X.K tl) := by
  intro pins s σ H R I h
  refine thn (hl pins s σ H _ I h) fun v s1 ⟨x, H1, I1, r1, q1⟩ => ?_
  obtain ⟨a, e, ⟨xs, hq⟩, q⟩ := q1
  subst e
  cases r1
  obtain ⟨its, rv, p, hz⟩ := I1.list hq
  refine wpAny_pyIter_list p.isList ?_
  refine ⟨s1.heap.objs.size, [s1.heap.objs.size], _, _, H1, rfl, I1.kept (t' := s1.toks) fun b o e => Heap.get?_push_of_some _ e, turn_list a _, ⟨_, Heap.get?_push_size _ rfl, rfl, rfl⟩, fun b hb => ?_, q⟩
  have e : b = s1.heap.objs.size := by simpa using hb
  subst e
  exact I1.fpOk (Nat.le_refl _) (I1.hok.fresh (Nat.le_refl _))
theorem range_it {pins : List (Addr × Obj)} {σ : St} {H : Hp} {s : Shared} {R : It → Hp → Prop} {E : Value → Shared → Prop} {lo hi : Int} {t u v : Tok} {tk : Nat} (I : Inv X pins σ H s) (h1 : -(2 ^ 62) ≤ lo) (h2 : lo < 2 ^ 62) (h3 : -(2 ^ 62) ≤ hi) (h4 : hi < 2 ^ 62)
    (q : R (Itr lo (hi - lo).toNat) H) : wpAny (model X.prog X.w) X.A (pyIter (.ref s.heap.objs.size)) (PIE X pins σ tg R) E { s with heap := s.heap.push { cls := .type "range", data := .fields #[.int lo t, .int hi u, .int 1 v] }, toks := tk } := by
  refine wpAny_pyIter_range (IsRange.new ..) (small_one h1 h2 h3 h4) ?_
  have I1 : Inv X pins σ H { s with heap := s.heap.push { cls := .type "range", data := .fields #[.int lo t, .int hi u, .int 1 v] }, toks := tk } := I.kept fun b o e => Heap.get?_push_of_some _ e
  refine ⟨(s.heap.push { cls := .type "range", data := .fields #[.int lo t, .int hi u, .int 1 v] }).objs.size, [(s.heap.push { cls := .type "range", data := .fields #[.int lo t, .int hi u, .int 1 v] }).objs.size], _, _, H, rfl,
    I1.kept (t' := tk) fun b o e => Heap.get?_push_of_some _ e, turn_range _ lo (hi - lo).toNat, ?_, fun b hb => ?_, q⟩
  · have e1 : lo + ((0 : Nat) : Int) * 1 = lo := by simp
    have e2 : (((hi - lo).toNat : Nat) : Int) - ((0 : Nat) : Int) = Builtin.Range.rangeSize lo hi 1 := by rw [rangeSize_one]; split <;> omega
    show IsRangeIter _ _ (lo + ((0 : Nat) : Int) * 1) ((((hi - lo).toNat : Nat) : Int) - ((0 : Nat) : Int)) 1
    rw [e1, e2]
    exact Heap.get?_push_size _ rfl
  · have e : b = (s.heap.push { cls := .type "range", data := .fields #[.int lo t, .int hi u, .int 1 v] }).objs.size := by simpa using hb
    subst e
    exact I1.fpOk (Nat.le_refl _) (I1.hok.fresh (Nat.le_refl _))
noncomputable def iRng1 (ta : TA) : TI := fun σ H R => ta σ H fun vs H1 => ∃ j : Int, vs = [.int j] ∧ -(2 ^ 62) ≤ j ∧ j < 2 ^ 62 ∧ R (Itr 0 j.toNat) H1
theorem pi_range1 {a : Expr} {ta : TA} {p pos : Pos} (hg : Gl X "range") (hm : X.mg "range" = none) (ha : PA X [a] ta) (hs : starEach [a] X.env = [(false, eval a X.env)] := by rfl) : PI X tg (.Call (.Name "range" p) [a] [] pos) (iRng1 ta) := by
  intro pins s σ H R I h
  refine Call_ (ld_blt I hg hm boot_range (PyProof.Rows.callWith_type1 (thn (ha pos pins s σ H _ I h) fun us s1 ⟨vs, H1, I1, r1, q1⟩ => ?_) hs rfl))
  obtain ⟨j, e, q1, q2, q⟩ := q1
  subst e
  cases r1 with
  | cons r rr =>
    cases rr
    obtain ⟨t, rfl⟩ := r
    exact call_range_1 (range_it I1 (by omega) (by omega) q1 q2 (by simpa using q))
noncomputable def tFor (wi : TI) (g : TG) (tb : TS) : TS := fun D σ H => wi σ H fun J H1 => ∃ W : Nat → Nat → St → Hp → Prop, (∃ m, W 0 m σ H1) ∧ ∀ i m σ H, W i m σ H →
  (J.stop i H ∧ D.nx σ H) ∨ (J.go i H ∧ ∃ N : St → Hp → Prop, (∀ σ' H', N σ' H' → ∃ m', m' < m ∧ W (i + 1) m' σ' H') ∧ ∀ x H', J.yld i H x H' → g x σ H' fun σ2 H2 => tb { D with nx := N, ct := N, bk := D.nx } σ2 H2)
noncomputable def pinsAt (fp : List Addr) (h : Heap) : List (Addr × Obj) := fp.filterMap fun b => (h.get? b).map fun o => (b, o)
theorem mem_pinsAt {fp : List Addr} {h : Heap} {b : Addr} {o : Obj} (hb : b ∈ fp) (e : h.get? b = some o) : (b, o) ∈ pinsAt fp h := List.mem_filterMap.mpr ⟨b, hb, by rw [e]; rfl⟩
theorem of_pinsAt {fp : List Addr} {h : Heap} {p : Addr × Obj} (hp : p ∈ pinsAt fp h) : p.1 ∈ fp ∧ h.get? p.1 = some p.2 := by
  obtain ⟨b, hb, e⟩ := List.mem_filterMap.mp hp
  cases q : h.get? b with
  | none => rw [q] at e; cases e
  | some o =>
    rw [q] at e
    have e' : (b, o) = p := Option.some.inj e
    subst e'
    exact ⟨hb, q⟩
theorem Inv.pinned {pins : List (Addr × Obj)} {σ : St} {H : Hp} {s : Shared} {fp : List Addr} (I : Inv X pins σ H s) (hf : ∀ b ∈ fp, FpOk X pins H b) (ho : ∀ b ∈ fp, ∃ o, s.heap.get? b = some o ∧ ∀ v, o.data ≠ .cell v) : Inv X (pins ++ pinsAt fp s.heap) σ H s :=
  I.pins_of fun p hp => (List.mem_append.mp hp).elim (fun z => I.pin p (List.mem_append_right _ z)) fun z => by
    obtain ⟨hb, e⟩ := of_pinsAt z
    obtain ⟨f0, f1, f2, _⟩ := hf p.1 hb
    obtain ⟨o, e', d⟩ := ho p.1 hb
    rw [e] at e'; cases e'
    exact ⟨e, f0, f1, f2, d⟩
theorem Inv.unpinned {pins pl : List (Addr × Obj)} {σ : St} {H : Hp} {s : Shared} (I : Inv X (pins ++ pl) σ H s) : Inv X pins σ H s := I.pins_of fun p hp => I.pin p (List.mem_append_right _ (List.mem_append_left _ hp))
theorem ps_for {iter : Expr} {body : List Stmt} {wi : TI} {g : TG} {tb : TS} {pos : Pos} (hp : PassesOwn (model X.prog X.w) X.A X.env X.xe) (hc : X.calm = true) (hi : PI X tg iter wi) (hg : PG X tg g) (hb : PSs X body tb)
    (hs : ∀ x, foldedSetIterable iter X.env x = pure x := by intro _; rfl) : PS X (.For tg iter body [] pos) (tFor wi g tb) := by
  intro pins s σ H D I h
  refine wpAny_For (thn (hi pins s σ H _ I h) fun v s1 h1 => thn h1 fun itv s2 h2 => ?_) hs
  obtain ⟨it, fp, tn, J, H2, e, I2, T, st2, f2, W, ⟨m0, w0⟩, turn⟩ := h2
  subst e
  have stat : ∀ {H' : Hp}, (∀ b ∈ fp, H' b = none) → ∀ b ∈ fp, FpOk X pins H' b := fun hn b hb => ⟨hn b hb, (f2 b hb).2⟩
  refine codeAny_forLoop_any (fun n s' => ∃ i σ' H', Inv X pins σ' H' s' ∧ tn i s'.heap ∧ (∀ b ∈ fp, H' b = none) ∧ W i n σ' H') ?_ m0 ⟨0, σ, H2, I2, st2, fun b hb => (f2 b hb).1, w0⟩
  rintro n s3 ⟨i, σ3, H3, I3, st3, fr3, w3⟩
  rcases turn i n σ3 H3 w3 with ⟨stop, qn⟩ | ⟨go, N, hN, step⟩
  · refine wpAny_passesOwn hp (thn (T.done X rfl rfl rfl hc i pins s3 σ3 H3 X.xe I3 (stat fr3) st3 stop) fun r s4 ⟨hr, I4⟩ => ?_)
    subst hr
    exact wpAny_execs_nil ⟨σ3, H3, I4, qn⟩
  · refine wpAny_passesOwn hp (thn (T.item X rfl rfl rfl hc i pins s3 σ3 H3 X.xe I3 (stat fr3) st3 go) fun r s4 ⟨u, hr, h4⟩ => ?_)
    subst hr
    refine wpAny_passesOwn hp (thn h4 fun _ s5 ⟨x, H5, I5, r5, y5, st5, fr5⟩ => ?_)
    have I5' := I5.pinned (stat fr5) (T.obj _ _ st5)
    refine wpAny_passesOwn hp (thn (hg _ s5 σ3 H5 x u _ I5' r5 (step x H5 y5)) fun _ s6 ⟨σ6, H6, I6, q6⟩ => ?_)
    refine wpAny_passesOwn hp (thn (hb _ s6 σ6 H6 _ I6 q6) fun f s7 q7 => ?_)
    have again : ∀ {σ7 : St} {H7 : Hp}, Inv X (pins ++ pinsAt fp s5.heap) σ7 H7 s7 → N σ7 H7 → ∃ m, m < n ∧ ∃ i σ' H', Inv X pins σ' H' s7 ∧ tn i s7.heap ∧ (∀ b ∈ fp, H' b = none) ∧ W i m σ' H' := fun {σ7 H7} I7 n7 => by
      obtain ⟨m', hm, w7⟩ := hN σ7 H7 n7
      refine ⟨m', hm, i + 1, σ7, H7, I7.unpinned, T.keep _ _ _ st5 fun b hb o e => (I7.pin (b, o) (List.mem_append_right _ (List.mem_append_right _ (mem_pinsAt hb e)))).1, fun b hb => ?_, w7⟩
      obtain ⟨o, e, d⟩ := T.obj _ _ st5 b hb
      exact (I7.pin (b, o) (List.mem_append_right _ (List.mem_append_right _ (mem_pinsAt hb e)))).2.1
    cases f with
    | next => obtain ⟨σ7, H7, I7, n7⟩ := q7; exact again I7 n7
    | cont => obtain ⟨σ7, H7, I7, n7⟩ := q7; exact again I7 n7
    | brk => obtain ⟨σ7, H7, I7, q7⟩ := q7; exact ⟨σ7, H7, I7.unpinned, q7⟩
    | ret v => obtain ⟨x7, σ7, H7, I7, r7, q7⟩ := q7; exact ⟨x7, σ7, H7, I7.unpinned, r7, q7⟩
end
theorem for_list {K : PySem.W.Frag} {a : Addr} {xs : List V} {g : TG} {tb : TS} {D : Ends} {σ : St} {H : Hp} (Pv : Nat → St → Hp → Prop) (h0 : Pv 0 σ H) (hl : ∀ i σ H, i ≤ xs.length → Pv i σ H → SqL K H a xs)
    (hs : ∀ i x σ H, xs[i]? = some x → Pv i σ H → g x σ H fun σ2 H2 => tb { D with nx := Pv (i + 1), ct := Pv (i + 1), bk := D.nx } σ2 H2) (hd : ∀ σ H, Pv xs.length σ H → D.nx σ H) :
    ∃ W : Nat → Nat → St → Hp → Prop, (∃ m, W 0 m σ H) ∧ ∀ i m σ H, W i m σ H →
      ((Itl K a).stop i H ∧ D.nx σ H) ∨ ((Itl K a).go i H ∧ ∃ N : St → Hp → Prop, (∀ σ' H', N σ' H' → ∃ m', m' < m ∧ W (i + 1) m' σ' H') ∧ ∀ x H', (Itl K a).yld i H x H' → g x σ H' fun σ2 H2 => tb { D with nx := N, ct := N, bk := D.nx } σ2 H2) := by
  refine ⟨fun i m σ H => m = xs.length - i ∧ i ≤ xs.length ∧ Pv i σ H, ⟨xs.length, by simp, Nat.zero_le _, h0⟩, ?_⟩
  rintro i m σ H ⟨rfl, hi, p⟩
  have q := hl i σ H hi p
  by_cases hlt : i < xs.length
  · refine .inr ⟨⟨xs, xs[i], q, by simp [hlt]⟩, Pv (i + 1), fun σ' H' p' => ⟨xs.length - (i + 1), by omega, rfl, hlt, p'⟩, fun x H' y => ?_⟩
    obtain ⟨e, y⟩ := y
    subst e
    exact hs i x σ _ (y xs q) p
  · have e : i = xs.length := by omega
    subst e
    exact .inl ⟨⟨xs, q, Nat.le_refl _⟩, hd σ H p⟩
theorem for_range {lo : Int} {n : Nat} {g : TG} {tb : TS} {D : Ends} {σ : St} {H : Hp} (Pv : Nat → St → Hp → Prop) (h0 : Pv 0 σ H)
    (hs : ∀ i σ H, i < n → Pv i σ H → g (.int (lo + i)) σ H fun σ2 H2 => tb { D with nx := Pv (i + 1), ct := Pv (i + 1), bk := D.nx } σ2 H2) (hd : ∀ σ H, Pv n σ H → D.nx σ H) :
    ∃ W : Nat → Nat → St → Hp → Prop, (∃ m, W 0 m σ H) ∧ ∀ i m σ H, W i m σ H →
      ((Itr lo n).stop i H ∧ D.nx σ H) ∨ ((Itr lo n).go i H ∧ ∃ N : St → Hp → Prop, (∀ σ' H', N σ' H' → ∃ m', m' < m ∧ W (i + 1) m' σ' H') ∧ ∀ x H', (Itr lo n).yld i H x H' → g x σ H' fun σ2 H2 => tb { D with nx := N, ct := N, bk := D.nx } σ2 H2) := by
  refine ⟨fun i m σ H => m = n - i ∧ i ≤ n ∧ Pv i σ H, ⟨n, by simp, Nat.zero_le _, h0⟩, ?_⟩
  rintro i m σ H ⟨rfl, hi, p⟩
  by_cases hlt : i < n
  · refine .inr ⟨hlt, Pv (i + 1), fun σ' H' p' => ⟨n - (i + 1), by omega, rfl, hlt, p'⟩, fun x H' y => ?_⟩
    obtain ⟨e, y⟩ := y
    subst e y
    exact hs i σ _ hlt p
  · have e : i = n := by omega
    subst e
    exact .inl ⟨Nat.le_refl _, hd σ H p⟩
end L2
namespace L2
open PySem PySem.Spec PyProof.Rows
noncomputable abbrev R2 := V → V → Hp → VK → Prop
noncomputable def OpR (X : Cx) (f : Value → Value → Sem Value) (r : R2) : Prop :=
  ∀ (pins : List (Addr × Obj)) (s : Shared) (σ : St) (H : Hp) (x y : V) (v u : Value) (Q : VK), Inv X pins σ H s → RelV x v → RelV y u → r x y H Q →
    wpAny (model X.prog X.w) X.A (f v u) (EP X pins σ Q) X.xe s
noncomputable def UnR (X : Cx) (f : Value → Sem Value) (r : V → Hp → VK → Prop) : Prop :=
  ∀ (pins : List (Addr × Obj)) (s : Shared) (σ : St) (H : Hp) (x : V) (v : Value) (Q : VK), Inv X pins σ H s → RelV x v → r x H Q →
    wpAny (model X.prog X.w) X.A (f v) (EP X pins σ Q) X.xe s
noncomputable def CallR (X : Cx) (f : Value) (r : List V → Hp → VK → Prop) : Prop :=
  ∀ (pins : List (Addr × Obj)) (s : Shared) (σ : St) (H : Hp) (xs : List V) (us : List Value) (Q : VK), Inv X pins σ H s → Vals xs us → r xs H Q →
    wpAny (model X.prog X.w) X.A (call f us) (EP X pins σ Q) X.xe s
noncomputable def tOp (r : R2) (ta tb : TE) : TE := fun σ H Q => ta σ H fun x H1 => tb σ H1 fun y H2 => r x y H2 Q
noncomputable def tUn (r : V → Hp → VK → Prop) (ta : TE) : TE := fun σ H Q => ta σ H fun x H1 => r x H1 Q
inductive rI (C : Int → Int → Prop) (g : Int → Int → V) (x y : V) (H : Hp) (Q : VK) : Prop
  | mk (i j : Int) (ex : x = .int i) (ey : y = .int j) (c : C i j) (q : Q (g i j) H) : rI C g x y H Q
inductive rI0 (g : Int → Int → V) (x y : V) (H : Hp) (Q : VK) : Prop
  | mk (i j : Int) (ex : x = .int i) (ey : y = .int j) (q : Q (g i j) H) : rI0 g x y H Q
inductive rU (g : Int → V) (x : V) (H : Hp) (Q : VK) : Prop
  | mk (i : Int) (ex : x = .int i) (q : Q (g i) H) : rU g x H Q
section
variable {X : Cx} {a b c : Expr} {ta tb tc : TE} {pos : Pos}
theorem binT (ha : PE X a ta) (hb : PE X b tb) {pins : List (Addr × Obj)} {s : Shared} {σ : St} {H : Hp} {R : V → V → Hp → Prop} (I : Inv X pins σ H s)
    (h : ta σ H fun x H1 => tb σ H1 fun y H2 => R x y H2) {Q : Value → Shared → Prop} {f : Value → Value → Sem Value}
    (hf : ∀ v u s2 x y H2, Inv X pins σ H2 s2 → RelV x v → RelV y u → R x y H2 → wpAny (model X.prog X.w) X.A (f v u) Q X.xe s2) :
    wpAny (model X.prog X.w) X.A (eval a X.env) (fun v s₁ => wpAny (model X.prog X.w) X.A (eval b X.env) (fun u s₂ => wpAny (model X.prog X.w) X.A (f v u) Q X.xe s₂) X.xe s₁) X.xe s := by
  refine thn (ha pins s σ H _ I h) fun v s1 ⟨x, H1, I1, r1, q1⟩ => ?_
  refine thn (hb pins s1 σ H1 _ I1 q1) fun u s2 ⟨y, H2, I2, r2, q2⟩ => ?_
  exact hf v u s2 x y H2 I2 r1 r2 q2
theorem pe_op {op : Operator} {r : R2} (ho : OpR X (binaryOp op) r) (ha : PE X a ta) (hb : PE X b tb) : PE X (.BinOp a op b pos) (tOp r ta tb) := by
  intro pins s σ H Q I h
  exact wpAny_BinOp (binT ha hb I h fun v u s2 x y H2 I2 rx ry q => ho pins s2 σ H2 x y v u Q I2 rx ry q)
theorem pe_un {op : UnaryOp} {r : V → Hp → VK → Prop} (ho : UnR X (unaryOp op) r) (ha : PE X a ta) : PE X (.UnaryOp op a pos) (tUn r ta) := by
  intro pins s σ H Q I h
  exact UnaryOp_ (thn (ha pins s σ H _ I h) fun v s1 ⟨x, H1, I1, r1, q1⟩ => ho pins s1 σ H1 x v Q I1 r1 q1)
theorem opI {f : Value → Value → Sem Value} {C : Int → Int → Prop} {g : Int → Int → Int}
    (rule : ∀ (i j : Int) (t u : Tok) (s : Shared) (Q : Value → Shared → Prop) (E : Value → Shared → Prop), C i j → Q (.int (g i j) s.toks) { s with toks := s.toks + 1 } → wpAny (model X.prog X.w) X.A (f (.int i t) (.int j u)) Q E s) :
    OpR X f (rI C fun i j => .int (g i j)) := by
  intro pins s σ H x y v u Q I rx ry h
  obtain ⟨i, j, rfl, rfl, hc, q⟩ := h
  obtain ⟨t, rfl⟩ := rx
  obtain ⟨t', rfl⟩ := ry
  exact rule i j t t' s _ _ hc ⟨.int (g i j), H, I.tok _, ⟨_, rfl⟩, q⟩
theorem opI0 {f : Value → Value → Sem Value} {g : Int → Int → Int}
    (rule : ∀ (i j : Int) (t u : Tok) (s : Shared) (Q : Value → Shared → Prop) (E : Value → Shared → Prop), Q (.int (g i j) s.toks) { s with toks := s.toks + 1 } → wpAny (model X.prog X.w) X.A (f (.int i t) (.int j u)) Q E s) :
    OpR X f (rI0 fun i j => .int (g i j)) := by
  intro pins s σ H x y v u Q I rx ry h
  obtain ⟨i, j, rfl, rfl, q⟩ := h
  obtain ⟨t, rfl⟩ := rx
  obtain ⟨t', rfl⟩ := ry
  exact rule i j t t' s _ _ ⟨.int (g i j), H, I.tok _, ⟨_, rfl⟩, q⟩
theorem opB0 {f : Value → Value → Sem Value} {g : Int → Int → Bool}
    (rule : ∀ (i j : Int) (t u : Tok) (s : Shared) (Q : Value → Shared → Prop) (E : Value → Shared → Prop), Q (.bool (g i j)) s → wpAny (model X.prog X.w) X.A (f (.int i t) (.int j u)) Q E s) :
    OpR X f (rI0 fun i j => .bl (g i j)) := by
  intro pins s σ H x y v u Q I rx ry h
  obtain ⟨i, j, rfl, rfl, q⟩ := h
  obtain ⟨t, rfl⟩ := rx
  obtain ⟨t', rfl⟩ := ry
  exact rule i j t t' s _ _ ⟨.bl (g i j), H, I, rfl, q⟩
noncomputable def CDiv (i j : Int) : Prop := 0 < j ∧ j < 1073741824
noncomputable def CPow (i j : Int) : Prop := 0 ≤ j ∧ j ≤ 1000000 ∧ i.natAbs < 2 ^ 64
noncomputable def CMul (i j : Int) : Prop := (-(2 ^ 64) < i ∧ i < 2 ^ 64) ∨ (-(2 ^ 64) < j ∧ j < 2 ^ 64)
theorem CMul.ok {i j : Int} (h : CMul i j) : IntMulOk i j := by
  rcases h with ⟨h1, h2⟩ | ⟨h1, h2⟩
  · exact .of_left (intBits_le_64 h1 h2)
  · exact .of_right (intBits_le_64 h1 h2)
theorem op_add : OpR X (binaryOp .Add) (rI0 fun i j => .int (i + j)) := opI0 fun _ _ _ _ _ _ _ q => add_int q
theorem op_sub : OpR X (binaryOp .Sub) (rI0 fun i j => .int (i - j)) := opI0 fun _ _ _ _ _ _ _ q => sub_int q
theorem op_mul : OpR X (binaryOp .Mult) (rI CMul fun i j => .int (i * j)) := opI fun _ _ _ _ _ _ _ hc q => mul_int q hc.ok
theorem op_fdiv : OpR X (binaryOp .FloorDiv) (rI CDiv fun i j => .int (i / j)) := opI fun i j _ _ _ _ _ hc q => by
  have h1 : (0 : Int) < j := hc.1
  have h2 : j < 1073741824 := hc.2
  exact floordiv_int (by omega) (by rw [Int.fdiv_eq_ediv_of_nonneg i (by omega)]; exact q) (.inl (PyProof.noPylong_small (by omega)))
theorem op_mod : OpR X (binaryOp .Mod) (rI (fun _ j => 0 < j) fun i j => .int (i % j)) := opI fun i j _ _ _ _ _ hc q => by
  have h1 : (0 : Int) < j := hc
  exact mod_int' (by omega) (by rw [Int.fmod_eq_emod_of_nonneg i (by omega)]; exact q)
theorem op_pow : OpR X (binaryOp .Pow) (rI CPow fun i j => .int (i ^ j.toNat)) := opI fun _ _ _ _ _ _ _ hc q => pow_int_small hc.1 hc.2.1 hc.2.2 q
theorem unI {f : Value → Sem Value} {g : Int → Int}
    (rule : ∀ (i : Int) (t : Tok) (s : Shared) (Q : Value → Shared → Prop) (E : Value → Shared → Prop), Q (.int (g i) s.toks) { s with toks := s.toks + 1 } → wpAny (model X.prog X.w) X.A (f (.int i t)) Q E s) :
    UnR X f (rU fun i => .int (g i)) := by
  intro pins s σ H x v Q I rx h
  obtain ⟨i, rfl, q⟩ := h
  obtain ⟨t, rfl⟩ := rx
  exact rule i t s _ _ ⟨.int (g i), H, I.tok _, ⟨_, rfl⟩, q⟩
theorem un_neg : UnR X (unaryOp .USub) (rU fun i => .int (-i)) := unI fun _ _ _ _ _ q => neg_int q
end
noncomputable def scal : V → V → Bool
  | .non, .non => true | .non, .int _ => true | .int _, .non => true | .non, .bl _ => true | .bl _, .non => true | .non, .str _ => true | .str _, .non => true
  | .int _, .int _ => true | .bl _, .bl _ => true | .str _, .str _ => true | .byt _, .byt _ => true
  | .int _, .str _ => true | .str _, .int _ => true | .bl _, .str _ => true | .str _, .bl _ => true
  | _, _ => false
inductive rEq (x y : V) (H : Hp) (Q : VK) : Prop
  | mk (s : scal x y = true) (q : Q (.bl (decide (x = y))) H) : rEq x y H Q
inductive rNe (x y : V) (H : Hp) (Q : VK) : Prop
  | mk (s : scal x y = true) (q : Q (.bl (!decide (x = y))) H) : rNe x y H Q
theorem dec_int {i j : Int} : decide (V.int i = V.int j) = (i == j) := by
  rw [Bool.eq_iff_iff]
  simp
theorem dec_bl {i j : Bool} : decide (V.bl i = V.bl j) = (i == j) := by
  rw [Bool.eq_iff_iff]
  simp
theorem dec_str {i j : Str} : decide (V.str i = V.str j) = (i == j) := by
  rw [Bool.eq_iff_iff]
  simp
theorem dec_byt {i j : Array UInt8} : decide (V.byt i = V.byt j) = (i.toList == j.toList) := by
  rw [Bool.eq_iff_iff]
  cases i
  cases j
  simp
section
variable {X : Cx} {a b c : Expr} {ta tb tc : TE} {pos : Pos}
theorem fin_bl {pins : List (Addr × Obj)} {σ : St} {H : Hp} {s : Shared} {Q : VK} {k k' : Bool} (I : Inv X pins σ H s) (q : Q (.bl k) H) (e : k = k') : EP X pins σ Q (.bool k') s := by
  subst e
  exact ⟨.bl k, H, I, rfl, q⟩
theorem op_eq : OpR X (compareOp .Eq) rEq := by
  intro pins s σ H x y v u Q I rx ry h
  obtain ⟨hs, q⟩ := h
  cases x with
  | non =>
    cases rx
    cases y with
    | non => cases ry; exact PySem.EqNone.eq_none_none (fin_bl I q (by simp))
    | bl j => cases ry; exact PySem.EqNone.eq_none_bool (fin_bl I q (by simp))
    | int j => obtain ⟨t', rfl⟩ := ry; exact PySem.EqNone.eq_none_int (fin_bl I q (by simp))
    | str j => obtain ⟨t', rfl⟩ := ry; exact PySem.EqNone.eq_none_str (fin_bl I q (by simp))
    | _ => exact absurd (show false = true from hs) Bool.false_ne_true
  | bl i =>
    cases rx
    cases y with
    | non => cases ry; exact PySem.EqNone.eq_bool_none (fin_bl I q (by simp))
    | bl j => cases ry; exact eq_bool (fin_bl I q dec_bl)
    | str j => obtain ⟨t', rfl⟩ := ry; exact PySem.EqMixed.eq_bool_str (fin_bl I q (by simp))
    | _ => exact absurd (show false = true from hs) Bool.false_ne_true
  | int i =>
    obtain ⟨t, rfl⟩ := rx
    cases y with
    | non => cases ry; exact PySem.EqNone.eq_int_none (fin_bl I q (by simp))
    | int j => obtain ⟨t', rfl⟩ := ry; exact eq_int (fin_bl I q dec_int)
    | str j => obtain ⟨t', rfl⟩ := ry; exact PySem.EqMixed.eq_int_str (fin_bl I q (by simp))
    | _ => exact absurd (show false = true from hs) Bool.false_ne_true
  | str i =>
    obtain ⟨t, rfl⟩ := rx
    cases y with
    | non => cases ry; exact PySem.EqNone.eq_str_none (fin_bl I q (by simp))
    | bl j => cases ry; exact PySem.EqMixed.eq_str_bool (fin_bl I q (by simp))
    | int j => obtain ⟨t', rfl⟩ := ry; exact PySem.EqMixed.eq_str_int (fin_bl I q (by simp))
    | str j => obtain ⟨t', rfl⟩ := ry; exact eq_str (fin_bl I q dec_str)
    | _ => exact absurd (show false = true from hs) Bool.false_ne_true
  | byt i =>
    obtain ⟨t, rfl⟩ := rx
    cases y with
    | byt j => obtain ⟨t', rfl⟩ := ry; exact PySem.W.eq_bytes (fin_bl I q dec_byt)
    | _ => exact absurd (show false = true from hs) Bool.false_ne_true
  | _ => cases y <;> exact absurd (show false = true from hs) Bool.false_ne_true
theorem op_ne : OpR X (compareOp .NotEq) rNe := by
  intro pins s σ H x y v u Q I rx ry h
  obtain ⟨hs, q⟩ := h
  cases x with
  | non =>
    cases rx
    cases y with
    | non => cases ry; exact PySem.EqNone.ne_none_none (fin_bl I q (by simp))
    | bl j => cases ry; exact PySem.EqNone.ne_none_bool (fin_bl I q (by simp))
    | int j => obtain ⟨t', rfl⟩ := ry; exact PySem.EqNone.ne_none_int (fin_bl I q (by simp))
    | str j => obtain ⟨t', rfl⟩ := ry; exact PySem.EqNone.ne_none_str (fin_bl I q (by simp))
    | _ => exact absurd (show false = true from hs) Bool.false_ne_true
  | bl i =>
    cases rx
    cases y with
    | non => cases ry; exact PySem.EqNone.ne_bool_none (fin_bl I q (by simp))
    | bl j => cases ry; exact ne_bool (fin_bl I q (congrArg not dec_bl))
    | str j => obtain ⟨t', rfl⟩ := ry; exact PySem.EqMixed.ne_bool_str (fin_bl I q (by simp))
    | _ => exact absurd (show false = true from hs) Bool.false_ne_true
  | int i =>
    obtain ⟨t, rfl⟩ := rx
    cases y with
    | non => cases ry; exact PySem.EqNone.ne_int_none (fin_bl I q (by simp))
    | int j => obtain ⟨t', rfl⟩ := ry; exact ne_int (fin_bl I q (congrArg not dec_int))
    | str j => obtain ⟨t', rfl⟩ := ry; exact PySem.EqMixed.ne_int_str (fin_bl I q (by simp))
    | _ => exact absurd (show false = true from hs) Bool.false_ne_true
  | str i =>
    obtain ⟨t, rfl⟩ := rx
    cases y with
    | non => cases ry; exact PySem.EqNone.ne_str_none (fin_bl I q (by simp))
    | bl j => cases ry; exact PySem.EqMixed.ne_str_bool (fin_bl I q (by simp))
    | int j => obtain ⟨t', rfl⟩ := ry; exact PySem.EqMixed.ne_str_int (fin_bl I q (by simp))
    | str j => obtain ⟨t', rfl⟩ := ry; exact ne_str (fin_bl I q (congrArg not dec_str))
    | _ => exact absurd (show false = true from hs) Bool.false_ne_true
  | byt i =>
    obtain ⟨t, rfl⟩ := rx
    cases y with
    | byt j => obtain ⟨t', rfl⟩ := ry; exact PySem.W.ne_bytes (fin_bl I q (congrArg not dec_byt))
    | _ => exact absurd (show false = true from hs) Bool.false_ne_true
  | _ => cases y <;> exact absurd (show false = true from hs) Bool.false_ne_true
theorem op_lt : OpR X (compareOp .Lt) (rI0 fun i j => .bl (decide (i < j))) := opB0 fun _ _ _ _ _ _ _ q => lt_int q
theorem op_le : OpR X (compareOp .LtE) (rI0 fun i j => .bl (decide (i ≤ j))) := opB0 fun _ _ _ _ _ _ _ q => le_int q
theorem op_gt : OpR X (compareOp .Gt) (rI0 fun i j => .bl (decide (j < i))) := opB0 fun _ _ _ _ _ _ _ q => gt_int q
theorem op_ge : OpR X (compareOp .GtE) (rI0 fun i j => .bl (decide (j ≤ i))) := opB0 fun _ _ _ _ _ _ _ q => ge_int q
theorem op_isN : OpR X (compareOp .Is) (fun x y H Q => y = .non ∧ Q (.bl (decide (x = .non))) H) := by
  intro pins s σ H x y v u Q I rx ry h
  obtain ⟨rfl, q⟩ := h
  cases ry
  refine is_none_gen (fin_bl I q ?_)
  cases x <;> first
    | (cases rx; rfl)
    | (obtain ⟨t, rfl⟩ := rx; rfl)
theorem nomark (b : Expr) {op : CmpOp} (h : op ≠ .In := by decide) (h2 : op ≠ .NotIn := by decide) : behindInMarks op b = false := by
  have e1 : (op == CmpOp.In) = false := by cases op <;> first | rfl | exact absurd rfl h
  have e2 : (op == CmpOp.NotIn) = false := by cases op <;> first | rfl | exact absurd rfl h2
  cases b <;> simp [behindInMarks, e1, e2]
theorem pe_cmpR {op : CmpOp} {r : R2} (ho : OpR X (compareOp op) r) (ha : PE X a ta) (hb : PE X b tb) (hm : behindInMarks op b = false) : PE X (.Compare a [op] [b] pos) (tOp r ta tb) := by
  intro pins s σ H Q I h
  exact wpAny_Compare1 (binT ha hb I h fun v u s2 x y H2 I2 rx ry q => ho pins s2 σ H2 x y v u Q I2 rx ry q) hm
noncomputable def tTest (t : TE) : TT := fun σ H Q => t σ H (isBl Q)
theorem pt_cmpR {op : CmpOp} {r : R2} (ho : OpR X (compareOp op) r) (ha : PE X a ta) (hb : PE X b tb) (hm : behindInMarks op b = false) : PT X (.Compare a [op] [b] pos) (tTest (tOp r ta tb)) := by
  intro pins s σ H Q I h
  refine wpAny_isTrue_Compare1 (thn (ha pins s σ H _ I h) fun v s1 ⟨x, H1, I1, r1, q1⟩ => thn (hb pins s1 σ H1 _ I1 q1) fun u s2 ⟨y, H2, I2, r2, q2⟩ =>
    thn (ho pins s2 σ H2 x y v u _ I2 r1 r2 q2) fun c s3 ⟨z, H3, I3, r3, k, e, q3⟩ => ?_) hm
  subst e
  cases r3
  exact wpAny_truthy_bool ⟨H3, I3, q3⟩
noncomputable def tChain (r r' : R2) (ta tb tc : TE) : TE := fun σ H Q => ta σ H fun x H1 => tb σ H1 fun y H2 => r x y H2 fun z H3 => ∃ k, z = .bl k ∧
  (if k = true then tc σ H3 fun w' H4 => r' y w' H4 Q else Q (.bl false) H3)
theorem pt_chain {op op' : CmpOp} {r r' : R2} (ho : OpR X (compareOp op) r) (ho' : OpR X (compareOp op') r') (ha : PE X a ta) (hb : PE X b tb) (hc : PE X c tc)
    (hm : lastMarks [op, op'] [b, c] = false := by with_unfolding_all rfl) : PT X (.Compare a [op, op'] [b, c] pos) (tTest (tChain r r' ta tb tc)) := by
  intro pins s σ H Q I h
  refine isTrue_chain (thn (ha pins s σ H _ I h) fun v s1 ⟨x, H1, I1, r1, q1⟩ => test_link (thn (hb pins s1 σ H1 _ I1 q1) fun u s2 ⟨y, H2, I2, r2, q2⟩ =>
    thn (ho pins s2 σ H2 x y v u _ I2 r1 r2 q2) fun d s3 ⟨z, H3, I3, r3, k, e, q3⟩ => ?_)) hm
  subst e
  cases r3
  refine wpAny_truthy_bool ?_
  cases k with
  | false =>
    obtain ⟨k', e', q'⟩ := q3
    cases e'
    exact ite_ff ⟨H3, I3, q'⟩
  | true =>
    refine ite_tt (test_last (thn (hc pins s3 σ H3 _ I3 q3) fun w' s4 ⟨z', H4, I4, r4, q4⟩ => thn (ho' pins s4 σ H4 y z' u w' _ I4 r2 r4 q4) fun d' s5 ⟨z2, H5, I5, r5, k2, e2, q5⟩ => ?_))
    subst e2
    cases r5
    exact wpAny_truthy_bool ⟨H5, I5, q5⟩
theorem line63 : (sizeLine : Nat) < 2 ^ 63 := by rw [sizeLine_eq]; decide
theorem op_add_str : OpR X (binaryOp .Add) (fun x y H Q => ∃ i j, x = .str i ∧ y = .str j ∧ i.length + j.length ≤ sizeLine ∧ Q (.str (i ++ j)) H) := by
  intro pins s σ H x y v u Q I rx ry h
  obtain ⟨i, j, rfl, rfl, hz, q⟩ := h
  obtain ⟨t, rfl⟩ := rx
  obtain ⟨t', rfl⟩ := ry
  exact add_str (fun t' tk => ⟨.str (i ++ j), H, I.tok _, ⟨_, rfl⟩, q⟩) hz
theorem vals1 {x : V} {us : List Value} (r : Vals [x] us) : ∃ u, us = [u] ∧ RelV x u := by
  cases r with
  | cons r1 r2 => cases r2; exact ⟨_, rfl, r1⟩
theorem vals2 {x y : V} {us : List Value} (r : Vals [x, y] us) : ∃ u w', us = [u, w'] ∧ RelV x u ∧ RelV y w' := by
  cases r with
  | cons r1 r2 =>
    cases r2 with
    | cons r3 r4 => cases r4; exact ⟨_, _, rfl, r1, r3⟩
end
end L2
namespace L2
open PySem PySem.Spec PyProof.Rows
structure ObjM (h : Heap) (x dx C : Addr) (mA : Str → Option Value) : Prop where
  obj : h.get? x = some (PySem.W.instObj C dx)
  ns : h.Ns1 dx mA
  ne : dx ≠ x
theorem lookIn_ns {h : Heap} {dx : Addr} {mA : Str → Option Value} (n : h.Ns1 dx mA) : ∃ od, h.get? dx = some od ∧ ∀ name, PySem.W.lookIn name od = some (mA name) := by
  obtain ⟨o, es, ep, ho, hd, hk, _, hm⟩ := n
  refine ⟨o, ho, fun name => ?_⟩
  have e := hm name
  unfold nsFind findBy at e
  rw [← Array.find?_toList] at e
  unfold PySem.W.lookIn
  rw [hd]
  dsimp only
  split
  · rename_i y q
    rw [q] at e
    exact congrArg some e
  · rename_i q
    rw [q] at e
    have a : es.toList.any (·.refKey) = false := by
      rw [List.any_eq_false]
      intro y hy
      obtain ⟨z, t, hkey⟩ := hk y (Array.mem_toList_iff.mp hy)
      simp [DictEntry.refKey, hkey]
    have a' : ¬ es.toList.any (·.refKey) = true := by rw [a]; exact Bool.false_ne_true
    rw [if_neg a']
    exact congrArg some e
theorem ObjM.look {h : Heap} {x dx C : Addr} {mA : Str → Option Value} (I : ObjM h x dx C mA) : ∃ od, PySem.W.InstAt h x (PySem.W.instObj C dx) C (some od) ∧ ∀ name, PySem.W.lookIn name od = some (mA name) :=
  let ⟨od, ho, hl⟩ := lookIn_ns I.ns
  ⟨od, ⟨I.obj, rfl, rfl, ho⟩, hl⟩
section
variable {prog : Program} {w : World} {A : Around} {E : Value → Shared → Prop} {s : Shared} {K : PySem.W.Frag} {x dx C f : Addr} {mA : Str → Option Value} {name : Str} {v : Value}
end
theorem RelO.some_of {v : V} {o : Option Value} (r : RelO (some v) o) : ∃ u, o = some u ∧ RelV v u := by
  cases o with
  | none => exact (show False from r).elim
  | some u => exact ⟨u, rfl, r⟩
theorem handed_of {v : V} {u : Value} (r : RelV v u) : PySem.W.handedIn u = true := by
  cases v with
  | non => cases (show u = Value.none from r); rfl
  | bl b => cases (show u = Value.bool b from r); rfl
  | int i => obtain ⟨t, e⟩ := (show ∃ t, u = Value.int i t from r); cases e; rfl
  | str x => obtain ⟨t, e⟩ := (show ∃ t, u = Value.str x t from r); cases e; rfl
  | byt b => obtain ⟨t, e⟩ := (show ∃ t, u = Value.bytes b t from r); cases e; rfl
  | flt b => obtain ⟨t, e⟩ := (show ∃ t, u = Value.float b t from r); cases e; rfl
  | ref a => cases (show u = Value.ref a from r); rfl
  | ty n => cases (show u = Value.type n from r); rfl
section
variable {P : Program} {w : World} {H H' : Hp} {h h' : Heap} {a C dx : Addr} {fs fs' : List (Str × V)}
theorem ins_get (hok : HOk P w H h) (e : H a = some (.ins C dx fs)) : ∃ mA, ObjM h a dx C mA ∧ (∀ f, RelO (fs.lookup f) (mA f)) ∧ PySem.Within mA (fs.map (·.1)) ∧ fs.length ≤ 1000 ∧ H dx = some (.own a) := by
  obtain ⟨d, z, ne, ob, mA, n, r, q⟩ := (show ObjOk P w H h a (.ins C dx fs) from hok a _ e)
  exact ⟨mA, ⟨ob, n, ne⟩, r, q, z, d⟩
end
structure Cls (K : PySem.W.Frag) (C : Addr) : Prop where
  pg : PySem.W.plainGet K C Str.empty = true
  hd : PySem.W.hasDictIn K C = true
  po : PySem.W.plainOver K C = true
  sa : PySem.W.findIn K (.ref C) "__setattr__" = some (some (.builtin "object.__setattr__"))
theorem Cls.get {K : PySem.W.Frag} {C : Addr} (c : Cls K C) (f : Str) : PySem.W.plainGet K C f = true := c.pg
section
variable {X : Cx} {pins : List (Addr × Obj)} {σ : St} {H : Hp} {s : Shared} {a C dx : Addr} {fs : List (Str × V)} {f : Str} {v : V} {A : Around} {E : Value → Shared → Prop}
theorem attr_of {prog : Program} {w : World} {env : Env} {e : Expr} {f : Str} {pos : Pos} {s : Shared} {Q : Value → Shared → Prop} (hb : attributeBase e f env (eval e env) = eval e env)
    (h : wpAny (model prog w) A (eval e env) (fun o s₁ => wpAny (model prog w) A (getAttr o f true) Q E s₁) E s) : wpAny (model prog w) A (eval (.Attribute e f pos) env) Q E s :=
  Attribute_any_ h (by rw [arm_eval_Attribute, hb])
end
section
variable {X : Cx} {o e value : Expr} {f : Str} {pos pos' tpos : Pos} {ta tv : TE}
end
section
variable {X : Cx} {pins : List (Addr × Obj)} {σ : St} {H : Hp} {s : Shared} {A : Around} {E : Value → Shared → Prop} {Q : Value → Shared → Prop} {c : Value} {b : Bool}
inductive TyOf (K : PySem.W.Frag) (H : Hp) : V → Value → Prop where
  | non : TyOf K H .non (.type "NoneType")
  | bl (x : Bool) : TyOf K H (.bl x) (.type "bool")
  | int (i : Int) : TyOf K H (.int i) (.type "int")
  | str (x : Str) : TyOf K H (.str x) (.type "str")
  | flt (x : UInt64) : TyOf K H (.flt x) (.type "float")
  | lst {a : Addr} {xs : List V} (e : H a = some (.lst xs)) : TyOf K H (.ref a) (.type "list")
  | frz {a : Addr} {o : Obj} {xs : List V} (e : H a = some (.frz o (.lst xs))) : TyOf K H (.ref a) (.type "list")
  | tup {a : Addr} {xs : List V} (e : H a = some (.tup xs)) : TyOf K H (.ref a) (.type "tuple")
  | dK {a : Addr} {kvs : List (Key × V)} (e : H a = some (.dK kvs)) : TyOf K H (.ref a) (.type "dict")
  | dT {a : Addr} {kvs : List (List Key × V)} (e : H a = some (.dT kvs)) : TyOf K H (.ref a) (.type "dict")
  | ins {a C dx : Addr} {fs : List (Str × V)} (e : H a = some (.ins C dx fs)) (cl : Cls K C) (ha : PySem.W.findIn K (.ref C) "__class__" = some (some (.builtin "object.__class__")))
      (hn : PySem.W.specialIn K (.builtin "object.__class__") "__get__" = some (some (.builtin "getset_descriptor.__get__"))) (htk : PySem.W.takesIn K (.builtin "object.__class__") = some true)
      (hm : PySem.W.mroIn K C (.type "object") = some true) : TyOf K H (.ref a) (.ref C)
theorem isinst_ok {x : V} {u t : Value} (I : Inv X pins σ H s) (rx : RelV x u) (ty : TyOf X.K H x t) (e : PySem.W.kitOne X.K t c = some b) (h : ∀ tk, Q (.bool b) { s with toks := tk }) :
    wpAny (model X.prog X.w) A (call (.builtin "isinstance") [u, c]) Q E s := by
  cases ty with
  | non => cases (show u = Value.none from rx); exact PySem.W.kia_one PySem.W.kitx_none I.kIn True.intro e (fun z => nomatch z) h
  | bl y => cases (show u = Value.bool y from rx); exact PySem.W.kia_one PySem.W.kitx_bool I.kIn True.intro e (fun z => nomatch z) h
  | int i => obtain ⟨t, q⟩ := (show ∃ t, u = Value.int i t from rx); cases q; exact PySem.W.kia_one PySem.W.kitx_int I.kIn True.intro e (fun z => nomatch z) h
  | str y => obtain ⟨t, q⟩ := (show ∃ t, u = Value.str y t from rx); cases q; exact PySem.W.kia_one PySem.W.kitx_str I.kIn True.intro e (fun z => nomatch z) h
  | flt y => obtain ⟨t, q⟩ := (show ∃ t, u = Value.float y t from rx); cases q; exact PySem.W.kia_one PySem.W.kitx_float I.kIn True.intro e (fun z => nomatch z) h
  | @lst a xs ea =>
    cases (show u = Value.ref a from rx)
    obtain ⟨_, _, n, _, h1⟩ := (show ObjOk X.prog X.w H s.heap a (.lst xs) from I.hok a _ ea)
    exact PySem.W.kia_one PySem.W.kitx_list I.kIn ⟨_, h1, rfl⟩ e (fun z => nomatch z) h
  | @frz a ob xs ea =>
    cases (show u = Value.ref a from rx)
    obtain ⟨_, _, _, n, _, h1⟩ := (show ObjOk X.prog X.w H s.heap a (.frz ob (.lst xs)) from I.hok a _ ea)
    exact PySem.W.kia_one PySem.W.kitx_list I.kIn ⟨_, h1, rfl⟩ e (fun z => nomatch z) h
  | @tup a xs ea =>
    cases (show u = Value.ref a from rx)
    obtain ⟨_, _, _, p⟩ := (show ObjOk X.prog X.w H s.heap a (.tup xs) from I.hok a _ ea)
    obtain ⟨o, h1, h2, _⟩ := p
    exact PySem.W.kia_one PySem.W.kitx_tuple I.kIn ⟨o, h1, h2⟩ e (fun z => nomatch z) h
  | @dK a kvs ea =>
    cases (show u = Value.ref a from rx)
    obtain ⟨_, _, vs, _, p⟩ := (show ObjOk X.prog X.w H s.heap a (.dK kvs) from I.hok a _ ea)
    obtain ⟨o, es, ep, h1, h2, _⟩ := p
    exact PySem.W.kia_one PySem.W.kitx_dict I.kIn ⟨o, h1, h2.1⟩ e (fun z => nomatch z) h
  | @dT a kvs ea =>
    cases (show u = Value.ref a from rx)
    obtain ⟨_, _, xs, _, o, es, ep, h1, h2, _⟩ := (show ObjOk X.prog X.w H s.heap a (.dT kvs) from I.hok a _ ea)
    exact PySem.W.kia_one PySem.W.kitx_dict I.kIn ⟨o, h1, h2.1⟩ e (fun z => nomatch z) h
  | @ins a C dx fs ea cl ha hn htk hm =>
    cases (show u = Value.ref a from rx)
    obtain ⟨mA, O, _⟩ := ins_get I.hok ea
    obtain ⟨od, J, _⟩ := O.look
    exact PySem.W.kia_one (PySem.W.kitx_own (cl.get _) cl.hd ha hn htk hm) I.kIn J e (fun z => nomatch z) h
end
end L2
namespace L2
open PySem PySem.Spec PyProof.Rows
structure Room (k : Nat) (A : Around) : Prop where
  hd : A.handled = none
  dp : A.depth + 3 * k + 5 < recursionLimit
  un : A.units + 16 * k + 200 < cLine
theorem Room.mono {j k : Nat} {A : Around} (r : Room k A) (h : j ≤ k) : Room j A := ⟨r.hd, by have := r.dp; omega, by have := r.un; omega⟩
theorem Room.deeper {k : Nat} {A : Around} (r : Room (k + 1) A) (env : Env) : Room k (A.deeper env) :=
  ⟨r.hd, by have := r.dp; show A.depth + 1 + 3 * k + 5 < _; omega, by have := r.un; show A.units + 3 + 16 * k + 200 < _; omega⟩
theorem make_depth {A : Around} {C : Addr} {us : List Value} {kw : List (Str × Value)} : (A.under (.builtin "type.__call__" ⟨.ref C :: us, kw⟩)).depth = A.depth + 1 := by
  first | rfl | simp [Around.under, Code.weight, Code.isCreation, Code.isGuard, Code.isCaller, Code.frames, Code.isFrame, guardIds]
theorem make_units {A : Around} {C : Addr} {us : List Value} {kw : List (Str × Value)} : (A.under (.builtin "type.__call__" ⟨.ref C :: us, kw⟩)).units = A.units + 1 := by
  first | rfl | simp [Around.under, Code.cUnits, Code.frames, Code.isFrame]
theorem Room.make {k : Nat} {A : Around} (r : Room (k + 1) A) (C : Addr) (us : List Value) (kw : List (Str × Value)) : Room k (A.under (.builtin "type.__call__" ⟨.ref C :: us, kw⟩)) :=
  ⟨r.hd, by have := r.dp; rw [make_depth]; omega, by have := r.un; rw [make_units]; omega⟩
theorem Room.depth {k : Nat} {A : Around} (r : Room k A) : A.depth < recursionLimit := by have := r.dp; omega
theorem Room.units {k : Nat} {A : Around} (r : Room k A) : A.units + 64 < cLine := by have := r.un; omega
noncomputable def tNil : TA := fun _ H Q => Q [] H
noncomputable def tCons (ta : TE) (tr : TA) : TA := fun σ H Q => ta σ H fun x H1 => tr σ H1 fun xs H2 => Q (x :: xs) H2
section
variable {X : Cx} {e : Expr} {es : List Expr} {te : TE} {t : TA} {pos : Pos}
theorem pa_nil : PA X [] tNil := fun _ _ _ _ H Q I h => Calls.spliced_nil ⟨[], H, I, .nil, h⟩
theorem pa_cons (ha : PE X e te) (hr : PA X es t) (hs : starEach (e :: es) X.env = (false, eval e X.env) :: starEach es X.env := by rfl) : PA X (e :: es) (tCons te t) := by
  intro pos pins s σ H Q I h
  rw [hs]
  show wpAny _ _ (spliced ((false, eval e X.env) :: backTo pos (starEach es X.env))) _ _ s
  refine Calls.spliced_cons (thn (ha pins s σ H _ I h) fun u s1 ⟨x, H1, I1, r1, q1⟩ => ?_)
  exact thn (hr pos pins s1 σ H1 _ I1 q1) fun us s2 ⟨xs, H2, I2, r2, q2⟩ => ⟨x :: xs, H2, I2, .cons r1 r2, q2⟩
inductive isNew (g : List V → HO) (Q : VK) (xs : List V) (H1 : Hp) : Prop
  | mk (z : xs.length ≤ sizeLine) (q : ∀ p, H1 p = none → Q (.ref p) (upd H1 p (g xs))) : isNew g Q xs H1
noncomputable def tTup (t : TA) : TE := fun σ H Q => t σ H (isNew .tup Q)
noncomputable def tLst (t : TA) : TE := fun σ H Q => t σ H (isNew .lst Q)
theorem pe_tup {x1} (h : PA X es t) : PE X (.Tuple es x1 pos) (tTup t) := by
  intro pins s σ H Q I hq
  refine wpAny_Tuple_spliced (thn (h pos pins s σ H _ I hq) fun us s1 ⟨xs, H1, I1, r, z, q⟩ => ⟨by rw [← r.length]; exact z, ?_⟩)
  have hf : H1 s1.heap.objs.size = none := I1.hok.fresh (Nat.le_refl _)
  refine ⟨.ref s1.heap.objs.size, upd H1 s1.heap.objs.size (.tup xs), I1.laid (t' := s1.toks) (fun b u e => Heap.get?_push_of_some _ e) (Nat.le_refl _) ?_, rfl, q _ hf⟩
  exact ⟨z, us, r, ⟨_, Heap.get?_push_size _ rfl, rfl, _, rfl⟩⟩
theorem pe_lst (h : PA X es t) : PE X (.List es pos) (tLst t) := by
  intro pins s σ H Q I hq
  refine wpAny_List_spliced (thn (h pos pins s σ H _ I hq) fun us s1 ⟨xs, H1, I1, r, z, q⟩ => ⟨by rw [← r.length]; exact z, ?_⟩)
  have hf : H1 s1.heap.objs.size = none := I1.hok.fresh (Nat.le_refl _)
  refine ⟨.ref s1.heap.objs.size, upd H1 s1.heap.objs.size (.lst xs), I1.laid (t' := s1.toks) (fun b u e => Heap.get?_push_of_some _ e) (Nat.le_refl _) ?_, rfl, q _ hf⟩
  exact ⟨z, us, 0, r, Heap.get?_push_size _ rfl⟩
end
noncomputable abbrev Sp := List V → Hp → VK → XK → Prop
noncomputable abbrev CXT := List Env → Hp → Shared → XK → Value → Shared → Prop
structure Env0 (P : Program) (w : World) (K : PySem.W.Frag) (mg : Str → Option Value) (base : Heap) (A : Around) (outer : List Env) (s : Shared) (H : Hp) : Prop where
  frames : A.frames = some outer
  mod : Mod K mg base
  bs : ∀ b o, base.get? b = some o → s.heap.get? b = some o ∧ H b = none
  bsz : base.objs.size ≤ s.heap.objs.size
  funs : s.heap.FunFrames base outer
  frf : ∀ b ∈ frs outer, H b = none
  hok : HOk P w H s.heap
  bare : AllBare s.gens
noncomputable def CE (outer : List Env) (P : Program) (w : World) (H : Hp) (s : Shared) (Q : VK) (u : Value) (s' : Shared) : Prop :=
  ∃ v H', s'.os = s.os ∧ AllBare s'.gens ∧ Un (frs outer) [] H H' s.heap s'.heap ∧ HOk P w H' s'.heap ∧ RelV v u ∧ Q v H'
noncomputable def CR (CX : CXT) (outer : List Env) (P : Program) (w : World) (H : Hp) (s : Shared) (Q : VK) (E : XK) (r : Result) (s' : Shared) : Prop :=
  match r with
  | .ok (.ret u) => CE outer P w H s Q u s'
  | .ok _ => False
  | .error e => CX outer H s E e s'
structure FnOk (P : Program) (w : World) (K : PySem.W.Frag) (mg : Str → Option Value) (base : Heap) (CX : CXT) (k : Nat) (f : Addr) (fd : FuncData) (ps : List Str) (sp : Sp) : Prop where
  len : ∀ vs H Q E, sp vs H Q E → vs.length = ps.length
  run : ∀ (A : Around) (outer : List Env) (s : Shared) (H : Hp) (args : Args) (us : List Value) (vs : List V) (Q : VK) (E : XK), Room k A → Env0 P w K mg base A outer s H → BindsTo s fd args (ps.zip us) → Vals vs us → sp vs H Q E →
    codeAny (model P w) A (.call (.ref f) args) (CR CX outer P w H s Q E) s
theorem FnOk.mono {P : Program} {w : World} {K : PySem.W.Frag} {mg : Str → Option Value} {base : Heap} {CX : CXT} {j k : Nat} {f : Addr} {fd : FuncData} {ps : List Str} {sp : Sp} (F : FnOk P w K mg base CX j f fd ps sp) (h : j ≤ k) :
    FnOk P w K mg base CX k f fd ps sp := ⟨F.len, fun A outer s H args us vs Q E hr => F.run A outer s H args us vs Q E (hr.mono h)⟩
theorem Env0.make {P : Program} {w : World} {K : PySem.W.Frag} {mg : Str → Option Value} {base : Heap} {A : Around} {outer : List Env} {s : Shared} {H : Hp} (e : Env0 P w K mg base A outer s H) (C : Addr) (us : List Value) (kw : List (Str × Value)) :
    Env0 P w K mg base (A.under (.builtin "type.__call__" ⟨.ref C :: us, kw⟩)) outer s H := ⟨by first | exact e.frames | (simpa [Around.under, Code.envs, Code.isFrame, pushEnvs] using e.frames), e.mod, e.bs, e.bsz, e.funs, e.frf, e.hok, e.bare⟩
section
variable {X : Cx} {pins : List (Addr × Obj)} {σ : St} {H : Hp} {s s' : Shared}
theorem Inv.env0 (I : Inv X pins σ H s) : Env0 X.prog X.w X.K X.mg X.base X.A X.stack s H :=
  ⟨I.ok.frames, I.ok.mod, I.bs, Nat.le_trans I.ok.bsz I.sz, I.stack, I.stkFree, I.hok, I.bare⟩
theorem Inv.after {Q : VK} {u : Value} (I : Inv X pins σ H s) (h : CE X.stack X.prog X.w H s Q u s') : EP X pins σ Q u s' := by
  obtain ⟨v, H', os, bare, un, hok, r, q⟩ := h
  obtain ⟨hh, g, d, t, os'⟩ := s'
  obtain rfl : os' = s.os := os
  exact ⟨v, H', I.call (h' := hh) (g' := g) (d' := d) (t' := t) (ch := []) un hok bare (fun b z => absurd z (by simp)), r, q⟩
end
noncomputable def tCall (sp : Sp) (dvs : List V) (E : XK) (t : TA) : TE := fun σ H Q => t σ H fun vs H1 => sp (vs ++ dvs) H1 Q E
noncomputable def Binds (K : PySem.W.Frag) (fd : FuncData) (ps : List Str) (ds : List Value) : Prop :=
  ∀ (s : Shared) (us : List Value), K.In s.heap → (us ++ ds).length = ps.length → BindsTo s fd ⟨us, []⟩ (ps.zip (us ++ ds))
theorem Binds.all {K : PySem.W.Frag} {fd : FuncData} {ps : List Str} (h : ∀ us : List Value, us.length = ps.length → bindArgs fd ⟨us, []⟩ = pure (ps.zip us)) : Binds K fd ps [] := fun s us _ hl => by
  rw [List.append_nil] at hl ⊢
  exact .of_eq (h us hl)
noncomputable def Passes (CX : CXT) (X : Cx) (E : XK) : Prop := ∀ (pins : List (Addr × Obj)) (σ : St) (H : Hp) (s : Shared) (e : Value) (s' : Shared), Inv X pins σ H s → CX X.stack H s E e s' → X.xe e s'
section
variable {X : Cx} {CX : CXT} {k : Nat} {f C : Addr} {fd : FuncData} {ps : List Str} {sp : Sp} {dvs : List V} {ds : List Value} {E : XK} {x m : Str} {p pos apos : Pos} {e o : Expr} {es : List Expr} {ta : TE} {t : TA}
theorem run_fn {pins : List (Addr × Obj)} {σ : St} {H : Hp} {s : Shared} {Q : VK} {us : List Value} {vs : List V} (F : FnOk X.prog X.w X.K X.mg X.base CX k f fd ps sp) (hr : Room k X.A) (hb : Binds X.K fd ps ds) (hd : Vals dvs ds) (hx : Passes CX X E)
    (I : Inv X pins σ H s) (r : Vals vs us) (h : sp (vs ++ dvs) H Q E) : wpAny (model X.prog X.w) X.A (call (.ref f) us) (EP X pins σ Q) X.xe s := by
  have r2 : Vals (vs ++ dvs) (us ++ ds) := r.append hd
  have hl : (us ++ ds).length = ps.length := by rw [← r2.length]; exact F.len _ _ _ _ h
  refine wpAny_call (codeAny_mono (F.run X.A X.stack s H ⟨us, []⟩ (us ++ ds) (vs ++ dvs) Q E hr I.env0 (hb s us I.kIn hl) r2 h) fun r s' hq => ?_)
  cases r with
  | error e => exact hx pins σ H s e s' I hq
  | ok fl =>
    cases fl with
    | ret u => exact I.after hq
    | next => exact False.elim hq
    | brk => exact False.elim hq
    | cont => exact False.elim hq
theorem pe_call (F : FnOk X.prog X.w X.K X.mg X.base CX k f fd ps sp) (hr : Room k X.A) (hg : Gl X x) (hm : X.mg x = some (.ref f)) (hk : PySem.W.keepIn X.K (.ref f) = true) (hb : Binds X.K fd ps ds) (hd : Vals dvs ds) (hx : Passes CX X E)
    (ha : PA X (e :: es) t) (hdb : (x == ("__debug__" : Str)) = false := by decide) (he : starEach (e :: es) X.env = (false, eval e X.env) :: starEach es X.env := by rfl) (hpl : (backTo pos (starEach es X.env)).any (·.1) = false := by rfl) :
    PE X (.Call (.Name x p) (e :: es) [] pos) (tCall sp dvs E t) := by
  intro pins s σ H Q I h
  refine wpAny_Call_Name_kw (ld_glob I hg hm ?_ hdb)
  refine PySem.W.callWith_K (h₀ := X.base) I.ok.mod.kin hk (thn (ha pos pins s σ H _ I h) fun us s1 ⟨vs, H1, I1, r, q⟩ => ⟨I1.kIn, ?_⟩) he hpl
  exact run_fn F hr hb hd hx I1 r q
end
section
variable {X : Cx} {CX : CXT} {k : Nat} {f C : Addr} {fd : FuncData} {ps ks : List Str} {sp : Sp} {E : XK} {x m : Str} {p pos apos kpos : Pos} {e o : Expr} {es : List Expr} {kws : List Keyword} {te ta : TE} {t tk : TA} {nm : Option Str}
variable {g : List Value → List Value → List Value} {gV : List V → List V → List V}
end
structure FnScope (N P : List Str) (sc : Scope) : Prop where
  kind : sc.kind = .function
  co : sc.isCoroutine = false
  gen : sc.isGenerator = false
  nd : N.Nodup
  pre : N.take P.length = P
  par : ∀ x ∈ P, sc.names.lookup x = some .local ∨ sc.names.lookup x = some .cell
  nofree : ∀ y ∈ sc.names, y.2 ≠ .free
theorem bindL_out {kindOf : Str → Option NameKind} {x : Str} : ∀ {binds : List (Str × Value)} {m : Str → Option Value}, (∀ v, (x, v) ∉ binds) → bindL kindOf binds m x = m x
  | [], _, _ => rfl
  | (n, v) :: r, m, h => by
    unfold bindL
    rw [bindL_out fun w hw => h w (List.mem_cons_of_mem _ hw)]
    split
    · have : x ≠ n := by rintro rfl; exact h v List.mem_cons_self
      simp [this]
    · rfl
theorem bindC_out {kindOf : Str → Option NameKind} {x : Str} : ∀ {binds : List (Str × Value)} {m : Str → Option Value}, (∀ v, (x, v) ∉ binds) → bindC kindOf binds m x = m x
  | [], _, _ => rfl
  | (n, v) :: r, m, h => by
    unfold bindC
    rw [bindC_out fun w hw => h w (List.mem_cons_of_mem _ hw)]
    split
    · rfl
    · have : x ≠ n := by rintro rfl; exact h v List.mem_cons_self
      simp [this]
theorem bindL_get {kindOf : Str → Option NameKind} {x : Str} {v : Value} : ∀ {P : List Str} {vs : List Value} {i : Nat} {m : Str → Option Value}, P.Nodup → P[i]? = some x → vs[i]? = some v → kindOf x = some .local →
    bindL kindOf (P.zip vs) m x = some v
  | [], _, _, _, _, h, _, _ => by simp at h
  | _ :: _, [], _, _, _, _, h, _ => by simp at h
  | p :: P, w :: vs, 0, m, nd, h1, h2, hk => by
    simp at h1 h2; subst h1; subst h2
    show bindL kindOf ((p, w) :: P.zip vs) m p = _
    unfold bindL
    rw [bindL_out fun v hv => (List.nodup_cons.mp nd).1 (List.of_mem_zip hv).1, if_pos hk]
    simp
  | p :: P, w :: vs, i + 1, m, nd, h1, h2, hk => by
    show bindL kindOf ((p, w) :: P.zip vs) m x = _
    unfold bindL
    exact bindL_get (i := i) (List.nodup_cons.mp nd).2 (by simpa using h1) (by simpa using h2) hk
theorem bindC_get {kindOf : Str → Option NameKind} {x : Str} {v : Value} : ∀ {P : List Str} {vs : List Value} {i : Nat} {m : Str → Option Value}, P.Nodup → P[i]? = some x → vs[i]? = some v → kindOf x ≠ some .local →
    bindC kindOf (P.zip vs) m x = some v
  | [], _, _, _, _, h, _, _ => by simp at h
  | _ :: _, [], _, _, _, _, h, _ => by simp at h
  | p :: P, w :: vs, 0, m, nd, h1, h2, hk => by
    simp at h1 h2; subst h1; subst h2
    show bindC kindOf ((p, w) :: P.zip vs) m p = _
    unfold bindC
    rw [bindC_out fun v hv => (List.nodup_cons.mp nd).1 (List.of_mem_zip hv).1, if_neg hk]
    simp
  | p :: P, w :: vs, i + 1, m, nd, h1, h2, hk => by
    show bindC kindOf ((p, w) :: P.zip vs) m x = _
    unfold bindC
    exact bindC_get (i := i) (List.nodup_cons.mp nd).2 (by simpa using h1) (by simpa using h2) hk
noncomputable def start (N : List Str) (vs : List V) : St := vs.map some ++ List.replicate (N.length - vs.length) none
noncomputable def cxOf (CX : CXT) (P : Program) (w : World) (K : PySem.W.Frag) (mg : Str → Option Value) (base : Heap) (N : List Str) (qual : Str) (scope : Scope) (f : Addr) (cd : Value) (A : Around) (outer : List Env) (s : Shared) (H : Hp) (E : XK) : Cx where
  prog := P
  w := w
  K := K
  mg := mg
  base := base
  A := A.deeper (envOfC qual scope s.heap.objs.size f cd)
  N := N
  s₀ := s
  H₀ := H
  env := envOfC qual scope s.heap.objs.size f cd
  outer := outer
  stack := envOfC qual scope s.heap.objs.size f cd :: outer
  ex := []
  calm := true
  fn := fun _ => true
  pn := []
  xe := fun e s' => wpAny (model P w) (A.deeper (envOfC qual scope s.heap.objs.size f cd)) (leaving (envOfC qual scope s.heap.objs.size f cd) e) (fun _ s'' => CX outer H s E e s'') (fun e' s'' => CX outer H s E e' s'') s'
theorem cell_has {sc : Scope} {n : Nat} {x : Str} (h : sc.names.lookup x = some .cell) : ∃ c, (cellsFrom n sc.names []).lookup x = some c := by
  have q := PySem.W.cellsFrom_some sc.names n [] (.inl h)
  exact Option.isSome_iff_exists.mp q
theorem inv_start {CX : CXT} {P : Program} {w : World} {K : PySem.W.Frag} {mg : Str → Option Value} {base : Heap} {N ps : List Str} {qual : Str} {scope : Scope} {f : Addr} {cd : Value} {A : Around} {outer : List Env} {s s1 : Shared} {H : Hp} {E : XK} {us : List Value} {vs : List V}
    (S : FnScope N ps scope) (hd : A.handled = none) (e0 : Env0 P w K mg base A outer s H) (hl : vs.length = ps.length) (r : Vals vs us)
    (x : InCallC s s.heap.objs.size (bindL (envOfC qual scope s.heap.objs.size f cd).kindOf (ps.zip us) fun _ => none) (cellsFrom (s.heap.objs.size + 1) scope.names []) (bindC (envOfC qual scope s.heap.objs.size f cd).kindOf (ps.zip us) fun _ => none) s1) :
    Inv (cxOf CX P w K mg base N qual scope f cd A outer s H E) [] (start N vs) H s1 := by
  have hpl : ps.length ≤ N.length := by have := congrArg List.length S.pre; rw [List.length_take] at this; omega
  obtain ⟨h1, tk, rfl, hk⟩ := x.done
  have noA : ∀ b : Addr, b ∉ (cxOf CX P w K mg base N qual scope f cd A outer s H E).ex := fun b z => absurd (show b ∈ ([] : List Addr) from z) (by simp)
  refine ⟨⟨e0.mod, S.kind, rfl, rfl, Nat.le_refl _, fun y z c h1 h2 => ?_, fun y hy => ?_, fun y c _ h => ?_, fun _ => hd, Around.frames_deeper e0.frames, .inr ⟨rfl, rfl⟩, fun b z => absurd z (noA b), e0.bs, e0.bsz, fun b _ _ => noA b, fun b z => absurd z (noA b), e0.funs, e0.frf⟩,
    rfl, e0.bare, Un.kept hk, ⟨_, x.toInCall.ns, fun i y v h1 h2 h3 => ?_⟩, fun y c h => ⟨_, x.cell y c h⟩, e0.hok.fresh (Nat.le_refl _), fun y c h => ?_, fun p hp => absurd (show p ∈ ([] : List (Addr × Obj)) from hp) (by simp), e0.hok.kept hk, ?_⟩
  · exact name_of_addr x.apart (PySem.mem_of_lookup h1) (PySem.mem_of_lookup h2)
  · have hy : scope.names.lookup y = some .cell ∨ scope.names.lookup y = some .free := hy
    rcases hy with hy | hy
    · exact cell_has hy
    · exact absurd rfl (S.nofree _ (PySem.mem_of_lookup hy))
  · exact Nat.le_of_lt (x.above y c (PySem.mem_of_lookup h))
  · have hi : i < vs.length := by
      unfold start at h2
      by_cases hi : i < vs.length
      · exact hi
      · rw [List.getElem?_append_right (by simpa using hi)] at h2
        rw [List.getElem?_replicate] at h2
        split at h2 <;> cases h2
    have ha : vs[i]? = some v := by
      unfold start at h2
      rw [List.getElem?_append_left (by simpa using hi), List.getElem?_map] at h2
      cases e : vs[i]? with
      | none => rw [e] at h2; cases h2
      | some a => rw [e] at h2; cases h2; rfl
    obtain ⟨u, hu, rv⟩ := r.get ha
    have hp : ps[i]? = some y := by
      rw [← S.pre, List.getElem?_take_of_lt (by omega)]; exact h1
    have ndP : ps.Nodup := by rw [← S.pre]; exact S.nd.sublist (List.take_sublist _ _)
    refine ⟨u, rv, ?_⟩
    rcases S.par y (List.mem_of_getElem? hp) with k | k
    · exact .inl ⟨k, bindL_get ndP hp hu k⟩
    · obtain ⟨c, e⟩ := cell_has (n := s.heap.objs.size + 1) k
      refine .inr ⟨.inl k, c, e, ?_⟩
      have q := x.cell y c e
      rw [bindC_get ndP hp hu (by show scope.names.lookup y ≠ _; rw [k]; decide)] at q
      exact q
  · exact e0.hok.fresh (Nat.le_of_lt (x.above y c (PySem.mem_of_lookup h)))
  · unfold start
    show _ = N.length
    rw [List.length_append, List.length_map, List.length_replicate]
    omega
theorem fn_of {CX : CXT} {P : Program} {w : World} {K : PySem.W.Frag} {mg : Str → Option Value} {base : Heap} {k : Nat} {f : Addr} {name qual : Str} {params : Arguments} {body : List Stmt} {scope : Scope} {dV kV doc pm cdv ct oc : Value} {an od : Option Addr}
    {osl : Array (Option Value)} {N ps : List Str} {sp : Sp} (lk : K.lookup f = some ⟨oc, od, .func (PySem.W.fnOf name qual params body scope dV kV doc pm an cdv ct), osl⟩) (hcd : PySem.W.codeIn K cdv qual = true) (S : FnScope N ps scope)
    (len : ∀ vs H Q E, sp vs H Q E → vs.length = ps.length)
    (hbody : ∀ (A : Around) (outer : List Env) (s : Shared) (H : Hp) (vs : List V) (Q : VK) (E : XK), Room k (A.deeper (envOfC qual scope s.heap.objs.size f cdv)) → sp vs H Q E →
      ∃ t, PSs (cxOf CX P w K mg base N qual scope f cdv A outer s H E) body t ∧ t { nx := fun _ H' => Q .non H', rt := Q } (start N vs) H) :
    FnOk P w K mg base CX (k + 1) f (PySem.W.fnOf name qual params body scope dV kV doc pm an cdv ct) ps sp := by
  refine ⟨len, fun A outer s H args us vs Q E hr e0 hb r hsp => ?_⟩
  have hl := len _ _ _ _ hsp
  have KX : K.In s.heap := e0.mod.kin.keeps fun b o e => (e0.bs b o e).1
  have lim : s.heap.NoLimit := e0.mod.nolimit.keeps fun b o e => (e0.bs b o e).1
  have hkind : ∀ y ∈ ps.zip us, scope.names.lookup y.1 = some .local ∨ (scope.names.lookup y.1 = some .cell ∧ ((cellsFrom (s.heap.objs.size + 1) scope.names []).lookup y.1).isSome = true) := fun ⟨n, v⟩ hy => by
    rcases S.par n (List.of_mem_zip hy).1 with q | q
    · exact .inl q
    · exact .inr ⟨q, PySem.W.cellsFrom_some _ _ _ (.inl q)⟩
  refine codeAny_call_function hr.depth (KX _ _ lk) rfl S.co S.gen rfl (PySem.W.codeRec_of KX hcd) (hb _ _ _ _ ?_)
  refine wpAny_newFunctionEnv_cells S.kind hkind fun env he s1 x => ?_
  subst he
  refine ⟨lim.keeps x.toInCall.keep, codeAny_func ?_⟩
  obtain ⟨t, ht, hq⟩ := hbody A outer s H vs Q E (hr.deeper _) hsp
  have I : Inv (cxOf CX P w K mg base N qual scope f cdv A outer s H E) [] (start N vs) H s1 := inv_start S hr.hd e0 hl r x
  refine wpAny_mono (ht [] s1 (start N vs) H _ I hq) (fun fl s' hs => ?_) fun e s' hs => hs
  have fin : ∀ {σ' : St} {H' : Hp} {v : V} {u : Value}, Inv (cxOf CX P w K mg base N qual scope f cdv A outer s H E) [] σ' H' s' → RelV v u → Q v H' → CE outer P w H s Q u s' :=
    fun {σ' H' v u} J rv q => ⟨v, H', J.os, J.bare, J.base, J.hok, rv, q⟩
  cases fl with
  | ret u =>
    obtain ⟨v, σ', H', J, rv, q⟩ := hs
    exact fin J rv q
  | next =>
    obtain ⟨σ', H', J, q⟩ := hs
    exact fin (v := V.non) (u := Value.none) J rfl q
  | brk =>
    obtain ⟨_, _, _, q⟩ := hs
    exact False.elim q
  | cont =>
    obtain ⟨_, _, _, q⟩ := hs
    exact False.elim q
end L2
namespace L2
open PySem PySem.Spec PyProof.Rows
section
variable {X : Cx} {x : Str} {p pos : Pos} {e : Expr} {es : List Expr} {t : TA} {id T : String} {r : List V → Hp → VK → Prop}
noncomputable def tCB (r : List V → Hp → VK → Prop) (t : TA) : TE := fun σ H Q => t σ H fun vs H1 => r vs H1 Q
theorem pe_callB (hc : CallR X (.builtin id) r) (hg : Gl X x) (hm : X.mg x = none) (hv : bootBuiltins x = some (.builtin id)) (ha : PA X (e :: es) t) (hn : x ≠ "__name__" := by decide) (hdb : (x == ("__debug__" : Str)) = false := by decide)
    (he : starEach (e :: es) X.env = (false, eval e X.env) :: starEach es X.env := by rfl) (hpl : (backTo pos (starEach es X.env)).any (·.1) = false := by rfl) : PE X (.Call (.Name x p) (e :: es) [] pos) (tCB r t) := by
  intro pins s σ H Q I h
  refine wpAny_Call_Name_kw (ld_blt I hg hm hv ?_ hn hdb)
  exact PyProof.Rows.callWith_builtin1 (thn (ha pos pins s σ H _ I h) fun us s1 ⟨vs, H1, I1, r1, q1⟩ => hc pins s1 σ H1 vs us Q I1 r1 q1) he hpl
theorem pe_callTy (hc : CallR X (.type T) r) (hg : Gl X x) (hm : X.mg x = none) (hv : bootBuiltins x = some (.type T)) (ha : PA X (e :: es) t) (hn : x ≠ "__name__" := by decide) (hdb : (x == ("__debug__" : Str)) = false := by decide)
    (he : starEach (e :: es) X.env = (false, eval e X.env) :: starEach es X.env := by rfl) (hpl : (backTo pos (starEach es X.env)).any (·.1) = false := by rfl) : PE X (.Call (.Name x p) (e :: es) [] pos) (tCB r t) := by
  intro pins s σ H Q I h
  refine wpAny_Call_Name_kw (ld_blt I hg hm hv ?_ hn hdb)
  exact PyProof.Rows.callWith_type1 (thn (ha pos pins s σ H _ I h) fun us s1 ⟨vs, H1, I1, r1, q1⟩ => hc pins s1 σ H1 vs us Q I1 r1 q1) he hpl
end
end L2
namespace HT
open PySem PyProof.Rows
section
open PySem.SeqAt
open PySem.AutoSeq1 (wpAny_loadPart')
open PySem.MeetsSeq PySem.MeetsSeq2 PySem.MeetsSeq3
end
section
variable {prog : Program} {w : World} {A : Around} {E : Value → Shared → Prop} {s : Shared}
theorem cat_tup {t b : Addr} {vs ws : List Value} {Q : Value → Shared → Prop} (ht : IsTup s.heap t vs.toArray) (hb : IsTup s.heap b ws.toArray) (hv : vs ≠ [])
    (h1 : ws = [] → Q (.ref t) s) (h2 : ws ≠ [] → Q (.ref s.heap.objs.size) { s with heap := s.heap.push { cls := .type "tuple", data := .seq (vs ++ ws).toArray } })
    (hsz : vs.length + ws.length ≤ sizeLine) : wpAny (model prog w) A (binaryOp .Add (.ref t) (.ref b)) Q E s := by
  obtain ⟨⟨cls, dd, data, sl⟩, ho, hc, n, hd⟩ := id ht
  obtain ⟨⟨cls2, dd2, data2, sl2⟩, ho2, hc2, n2, hd2⟩ := id hb
  simp only at hc hd hc2 hd2
  subst hc hd hc2 hd2
  have e : vs.toArray ++ ws.toArray = (vs ++ ws).toArray := by simp
  by_cases hw : ws = []
  · exact concat_meets ⟨_, ho, rfl⟩ ⟨_, ho2, rfl⟩ noFill_tuple_add seq_tuple_add PySem.F.slot_tuple_add PySem.F.entry_tuple_add (PySem.F.args_tuple_add_2 _ _)
      (tuple_addW1 t b vs.toArray ws.toArray n n2 dd dd2 sl sl2 (by simpa using hv) (by simp [hw])) ⟨ho, ho2, h1 hw⟩
  · refine concat_meets ⟨_, ho, rfl⟩ ⟨_, ho2, rfl⟩ noFill_tuple_add seq_tuple_add PySem.F.slot_tuple_add PySem.F.entry_tuple_add (PySem.F.args_tuple_add_2 _ _)
      (tuple_addW2 t b vs.toArray ws.toArray n n2 dd dd2 sl sl2 (by simpa using hv) (by simpa using hw) (by rw [List.size_toArray, List.size_toArray]; exact hsz)) ⟨ho, ho2, ?_⟩
    rw [e]
    exact h2 hw
noncomputable def sIx (n d : Nat) : Option Int → Nat
  | none => d
  | some v => if v < 0 then (v + (n : Int)).toNat else min v.toNat n
theorem sIx_none (n d : Nat) : sIx n d none = d := rfl
theorem sIx_nat (n d k : Nat) : sIx n d (some (k : Int)) = min k n := by
  show (if (k : Int) < 0 then ((k : Int) + (n : Int)).toNat else min (k : Int).toNat n) = min k n
  rw [if_neg (by omega), Int.toNat_natCast]
end
end HT
namespace L2
open PySem PySem.Spec PyProof.Rows
noncomputable abbrev TO := St → Hp → (Option Int → Hp → Prop) → Prop
noncomputable def PO (X : Cx) (e : Option Expr) (t : TO) : Prop :=
  ∀ (pins : List (Addr × Obj)) (s : Shared) (σ : St) (H : Hp) (Q : Option Int → Hp → Prop), Inv X pins σ H s → t σ H Q →
    wpAny (model X.prog X.w) X.A (evalPart e X.env) (fun u s' => ∃ o H', Inv X pins σ H' s' ∧ IsPart u o ∧ Q o H') X.xe s
noncomputable def tNoPart : TO := fun _ H Q => Q none H
inductive isPart (Q : Option Int → Hp → Prop) (x : V) (H1 : Hp) : Prop
  | mk (i : Int) (e : x = .int i) (q : Q (some i) H1) : isPart Q x H1
noncomputable def tPart (t : TE) : TO := fun σ H Q => t σ H (isPart Q)
theorem intsAre_of {ns : List Int} : ∀ {us : List Value}, Vals (ns.map V.int) us → IntsAre us ns := by
  induction ns with
  | nil => intro us r; rw [List.map_nil] at r; cases r; exact .nil
  | cons n ns ih =>
    intro us r
    rw [List.map_cons] at r
    cases r with
    | cons r1 r2 =>
      obtain ⟨t, e⟩ := r1
      subst e
      exact .cons n t (ih r2)
section
variable {X : Cx} {e : Expr} {te : TE} {lo hi : Option Expr} {tl th : TO} {pos p2 : Pos}
theorem po_none : PO X none tNoPart := by
  intro pins s σ H Q I h
  rw [evalPart_none]
  exact wpAny_pure ⟨none, H, I, .none, h⟩
theorem po_some (h : PE X e te) : PO X (some e) (tPart te) := by
  intro pins s σ H Q I hw
  rw [evalPart_some]
  refine thn (h pins s σ H _ I hw) fun u s1 ⟨x, H1, I1, r1, q1⟩ => ?_
  obtain ⟨i, rfl, q⟩ := q1
  obtain ⟨t, rfl⟩ := r1
  exact ⟨some i, H1, I1, .int i t, q⟩
noncomputable def SlR (X : Cx) (r : V → Option Int → Option Int → Hp → VK → Prop) : Prop :=
  ∀ (pins : List (Addr × Obj)) (s : Shared) (σ : St) (H : Hp) (x : V) (v vl vu : Value) (lo hi : Option Int) (sl : Addr) (Q : VK), Inv X pins σ H s → RelV x v → s.heap.IsSliceOf sl vl vu .none → IsPart vl lo → IsPart vu hi → r x lo hi H Q →
    ∃ T id, typeLookup (.type T) "__getitem__" = pure (some (.builtin id)) ∧ s.TypeIs v T ∧ wpAny (model X.prog X.w) X.A (getItem v (.ref sl)) (EP X pins σ Q) X.xe s
noncomputable def tSl (r : V → Option Int → Option Int → Hp → VK → Prop) (te : TE) (tl th : TO) : TE := fun σ H Q => te σ H fun x H1 => tl σ H1 fun l H2 => th σ H2 fun u H3 => r x l u H3 Q
theorem pe_slice {r : V → Option Int → Option Int → Hp → VK → Prop} (hr : SlR X r) (he : PE X e te) (hl : PO X lo tl) (hu : PO X hi th) : PE X (.Subscript e (.Slice lo hi none p2) pos) (tSl r te tl th) := by
  intro pins s σ H Q I h
  refine Subscript_ (thn (he pins s σ H _ I h) fun v s1 ⟨x, H1, I1, r1, q1⟩ => ?_)
  refine wpAny_Slice (thn (hl pins s1 σ H1 _ I1 q1) fun vl s2 ⟨l, H2, I2, pl, q2⟩ => thn (hu pins s2 σ H2 _ I2 q2) fun vu s3 ⟨u, H3, I3, pu, q3⟩ => ?_)
  rw [evalPart_none]
  refine wpAny_pure ?_
  have I4 : Inv X pins σ H3 { s3 with heap := s3.heap.push { cls := .type "slice", data := .fields #[vl, vu, .none] } } := I3.kept (t' := s3.toks) fun b ob q => Heap.get?_push_of_some _ q
  obtain ⟨T, id, hT, ht, hg⟩ := hr pins { s3 with heap := s3.heap.push { cls := .type "slice", data := .fields #[vl, vu, .none] } } σ H3 x v vl vu l u s3.heap.objs.size Q I4 r1 (Heap.IsSliceOf.new ..) pl pu q3
  show wpAny (model X.prog X.w) X.A (subscriptTail e (.Slice lo hi none p2) v (.ref s3.heap.objs.size)) (EP X pins σ Q) X.xe { s3 with heap := s3.heap.push { cls := .type "slice", data := .fields #[vl, vu, .none] } }
  exact tail_any (ops := [.ref s3.heap.objs.size, v]) ht hT hg (by with_unfolding_all rfl)
noncomputable def cutV (xs : List V) (lo hi : Option Int) : List V := (xs.drop (HT.sIx xs.length 0 lo)).take (HT.sIx xs.length xs.length hi - HT.sIx xs.length 0 lo)
theorem cutV_length (xs : List V) (lo hi : Option Int) : (cutV xs lo hi).length ≤ xs.length := by
  unfold cutV
  rw [List.length_take, List.length_drop]
  omega
inductive rCatT (K : PySem.W.Frag) (x y : V) (H : Hp) (Q : VK) : Prop
  | mk (a b : Addr) (xs ys : List V) (ex : x = .ref a) (ey : y = .ref b) (s : SqT K H a xs) (s' : SqT K H b ys) (n : xs ≠ []) (z : xs.length + ys.length ≤ sizeLine) (q0 : ys = [] → Q (.ref a) H) (q : ys ≠ [] → ∀ p, H p = none → Q (.ref p) (upd H p (.tup (xs ++ ys)))) : rCatT K x y H Q
theorem Vals.nil_iff {xs : List V} {us : List Value} (r : Vals xs us) : us = [] ↔ xs = [] := by
  cases r with
  | nil => simp
  | cons _ _ => simp
theorem op_catT : OpR X (binaryOp .Add) (rCatT X.K) := by
  intro pins s σ H x y v u Q I rx ry h
  obtain ⟨a, b, xs, ys, rfl, rfl, ha, hb, hx, hz, q1, q2⟩ := h
  cases rx
  cases ry
  obtain ⟨its, r1, p1, _⟩ := I.tuple ha
  obtain ⟨its2, r2, p2, _⟩ := I.tuple hb
  refine HT.cat_tup p1 p2 (fun z => hx (r1.nil_iff.mp z)) (fun z => ⟨.ref a, H, I, rfl, q1 (r2.nil_iff.mp z)⟩) (fun z => ?_) (by rw [← r1.length, ← r2.length]; exact hz)
  refine ⟨.ref s.heap.objs.size, _, I.laid (t' := s.toks) (o := .tup (xs ++ ys)) (fun b ob q => Heap.get?_push_of_some _ q) (Nat.le_refl _) ?_, rfl, q2 (fun w => z (r2.nil_iff.mpr w)) _ (I.hok.fresh (Nat.le_refl _))⟩
  exact ⟨by rw [List.length_append]; exact hz, _, r1.append r2, IsTup.new _ _⟩
end
end L2
namespace L2
open PySem PySem.Spec PyProof.Rows
noncomputable def ixN (n : Nat) (i : Int) : Option Nat := if 0 ≤ i then (if i < n then some i.toNat else none) else if -(n : Int) ≤ i then some (i + n).toNat else none
noncomputable def atI {α : Type} (xs : List α) (i : Int) : Option α := (ixN xs.length i).bind fun j => xs[j]?
theorem ixN_seq {n : Nat} {i : Int} {j : Nat} (h : ixN n i = some j) : seqIndex? i n = some j ∧ j < n ∧ -(n : Int) ≤ i ∧ i < n := by
  unfold ixN at h
  by_cases h0 : 0 ≤ i
  · rw [if_pos h0] at h
    by_cases h1 : i < n
    · rw [if_pos h1] at h
      have e : i.toNat = j := Option.some.inj h
      exact ⟨by rw [seqIndex_of h0 h1, e], by omega, by omega, h1⟩
    · rw [if_neg h1] at h; cases h
  · rw [if_neg h0] at h
    by_cases h1 : -(n : Int) ≤ i
    · rw [if_pos h1] at h
      have e : (i + n).toNat = j := Option.some.inj h
      exact ⟨by rw [seqIndex_neg (by omega) h1, e], by omega, h1, by omega⟩
    · rw [if_neg h1] at h; cases h
theorem atI_get {α : Type} {xs : List α} {i : Int} {v : α} (h : atI xs i = some v) : ∃ j, seqIndex? i xs.length = some j ∧ xs[j]? = some v ∧ j < xs.length ∧ -(xs.length : Int) ≤ i ∧ i < xs.length := by
  unfold atI at h
  cases e : ixN xs.length i with
  | none => rw [e] at h; cases h
  | some j =>
    rw [e] at h
    obtain ⟨h1, h2, h3, h4⟩ := ixN_seq e
    exact ⟨j, h1, h, h2, h3, h4⟩
theorem atI_nat {α : Type} {xs : List α} {j : Nat} {v : α} (h : xs[j]? = some v) : atI xs (j : Int) = some v := by
  have hj : j < xs.length := (List.getElem?_eq_some_iff.mp h).1
  have e : ixN xs.length (j : Int) = some j := by
    unfold ixN
    rw [if_pos (by omega), if_pos (by omega)]; simp
  unfold atI; rw [e]; exact h
noncomputable def PlainIx (b : Expr) : Prop := ∀ o i, subscripted b false o i = operate [o, i] (getItem o i)
noncomputable def IxR (X : Cx) (r : R2) : Prop :=
  ∀ (value slice : Expr) (pins : List (Addr × Obj)) (s : Shared) (σ : St) (H : Hp) (x y : V) (v u : Value) (Q : VK), Inv X pins σ H s → RelV x v → RelV y u → r x y H Q →
    subscripted slice false v u = operate [v, u] (getItem v u) → wpAny (model X.prog X.w) X.A (subscriptTail value slice v u) (EP X pins σ Q) X.xe s
noncomputable def MtR (X : Cx) (id : String) (r : V → List V → Hp → VK → Prop) : Prop :=
  ∀ (pins : List (Addr × Obj)) (s : Shared) (σ : St) (H : Hp) (x : V) (xs : List V) (v : Value) (us : List Value) (Q : VK), Inv X pins σ H s → RelV x v → Vals xs us → r x xs H Q →
    wpAny (model X.prog X.w) X.A (call (.builtin id) (v :: us)) (EP X pins σ Q) X.xe s
section
variable {X : Cx} {a b : Expr} {ta tb : TE} {pos : Pos}
theorem pe_ix {r : R2} (hr : IxR X r) (ha : PE X a ta) (hb : PE X b tb) (hs : PlainIx b) : PE X (.Subscript a b pos) (tOp r ta tb) := by
  intro pins s σ H Q I h
  exact Subscript_ (binT ha hb I h fun v u s2 x y H2 I2 rx ry q => hr a b pins s2 σ H2 x y v u Q I2 rx ry q (hs _ _))
inductive rIxL (K : PySem.W.Frag) (x y : V) (H : Hp) (Q : VK) : Prop
  | mk (p : Addr) (xs : List V) (i : Int) (v : V) (ex : x = .ref p) (ey : y = .int i) (s : SqL K H p xs) (a : atI xs i = some v) (q : Q v H) : rIxL K x y H Q
inductive rIxT (K : PySem.W.Frag) (x y : V) (H : Hp) (Q : VK) : Prop
  | mk (p : Addr) (xs : List V) (i : Int) (v : V) (ex : x = .ref p) (ey : y = .int i) (s : SqT K H p xs) (a : atI xs i = some v) (q : Q v H) : rIxT K x y H Q
noncomputable def rIxS : R2 := fun x y H Q => ∃ z i c, x = .str z ∧ y = .int i ∧ z.length ≤ sizeLine ∧ atI z.cps.toList i = some c ∧ Q (.str ⟨#[c]⟩) H
theorem ix_list : IxR X (rIxL X.K) := by
  intro value slice pins s σ H x y v u Q I rx ry h hs
  obtain ⟨p, xs, i, z, rfl, rfl, hq, he, q⟩ := h
  cases rx
  obtain ⟨t, rfl⟩ := ry
  obtain ⟨its, r, pl, hz⟩ := I.list hq
  obtain ⟨j, h1, h2, h3, h4, h5⟩ := atI_get he
  obtain ⟨w, ew, rw'⟩ := r.get h2
  have hl := r.length
  have hn := line63
  have fin : EP X pins σ Q w s := ⟨z, H, I, rw', q⟩
  by_cases h0 : 0 ≤ i
  · have hj : i.toNat = j := by
      rw [seqIndex_of h0 h5] at h1
      exact Option.some.inj h1
    exact item_listR pl.isList h0 (by omega) (by rw [hj]; simpa using ew) fin hs
  · have hj : (i + (its.toArray.size : Int)).toNat = j := by
      rw [seqIndex_neg (by omega) h4] at h1
      rw [List.size_toArray, ← hl]
      exact Option.some.inj h1
    exact subscriptTail_builtinR (x := w) pl.isList.typeIs slot_list_getitem.lookup
      (wpAny_getItem_list_neg (Q := fun r s' => r = w ∧ EP X pins σ Q r s') pl.isList (by omega) (by rw [List.size_toArray] <;> omega) (by omega) (by rw [hj]; simpa using ew) ⟨rfl, fin⟩) hs
theorem ix_tup : IxR X (rIxT X.K) := by
  intro value slice pins s σ H x y v u Q I rx ry h hs
  obtain ⟨p, xs, i, z, rfl, rfl, hq, he, q⟩ := h
  cases rx
  obtain ⟨t, rfl⟩ := ry
  obtain ⟨its, r, pl, hz⟩ := I.tuple hq
  obtain ⟨j, h1, h2, h3, h4, h5⟩ := atI_get he
  obtain ⟨w, ew, rw'⟩ := r.get h2
  have hl := r.length
  have hn := line63
  have fin : EP X pins σ Q w s := ⟨z, H, I, rw', q⟩
  exact subscriptTail_builtinR (x := w) pl.typeIs slot_tuple_getitem.lookup
    (getItem_tuple (j := j) (Q := fun r s' => r = w ∧ EP X pins σ Q r s') pl (by omega) (by omega) (by rw [List.size_toArray, ← hl]; exact h1) (by simpa using ew) ⟨rfl, fin⟩) hs
theorem ix_str : IxR X rIxS := by
  intro value slice pins s σ H x y v u Q I rx ry h hs
  obtain ⟨z, i, c, rfl, rfl, hz, he, q⟩ := h
  obtain ⟨t, rfl⟩ := rx
  obtain ⟨t', rfl⟩ := ry
  obtain ⟨j, h1, h2, h3, h4, h5⟩ := atI_get he
  have hl : z.cps.toList.length = z.length := by simp [Str.length]
  rw [hl] at h1 h4 h5
  have hn := line63
  exact tail_any (typeIs_str s z t) slot_str_getitem.lookup (getItem_str (c := c) (by
    have e1 : decide (i < -(2 ^ 63 : Int)) = false := decide_eq_false (by omega)
    have e2 : decide (i ≥ 2 ^ 63) = false := decide_eq_false (by omega)
    rw [e1, e2, Bool.or_false]) (by rw [h1]; simpa using h2) ⟨.str ⟨#[c]⟩, H, I.tok _, ⟨_, rfl⟩, q⟩) hs
theorem mapSeq_set (its : List Value) (n j : Nat) (u : Value) : Obj.mapSeq (·.setIfInBounds j u) { cls := .type "list", data := .seq its.toArray n } = { cls := .type "list", data := .seq (its.set j u).toArray n } := by
  simp [Obj.mapSeq]
theorem Inv.lst {pins : List (Addr × Obj)} {σ : St} {H : Hp} {s : Shared} {p : Addr} {xs : List V} (I : Inv X pins σ H s) (h : H p = some (.lst xs)) :
    ∃ (its : List Value) (n : Nat), Vals xs its ∧ s.heap.get? p = some { cls := .type "list", data := .seq its.toArray n } ∧ xs.length ≤ sizeLine := by
  obtain ⟨z, its, n, r, e⟩ := I.hok p _ h
  exact ⟨its, n, r, e, z⟩
theorem Inv.lstUpd {pins : List (Addr × Obj)} {σ : St} {H : Hp} {s : Shared} {p : Addr} {xs ys : List V} {its its' : List Value} {n n' : Nat} {f : Obj → Obj} (I : Inv X pins σ H s) (h : H p = some (.lst xs))
    (ho : s.heap.get? p = some { cls := .type "list", data := .seq its.toArray n }) (hf : f { cls := .type "list", data := .seq its.toArray n } = { cls := .type "list", data := .seq its'.toArray n' }) (r : Vals ys its') (hz : ys.length ≤ sizeLine) (t : Nat) :
    Inv X pins σ (upd H p (.lst ys)) { s with heap := s.heap.update p f, toks := t } := by
  have e : (s.heap.update p f).get? p = some { cls := .type "list", data := .seq its'.toArray n' } := by
    rw [Heap.get?_update_self f ho (by rw [hf] <;> rfl), hf]
  refine I.write (x := p) (e := p) (by rw [h]; trivial) (.inl rfl) (fun b u hb q => (Heap.get?_update_other _ _ (Ne.symm hb)).trans q) ⟨_, e⟩ ?_
  exact ⟨hz, its', n', r, e⟩
noncomputable def rSetL : V → V → V → Hp → (Hp → Prop) → Prop := fun o i v H Q => ∃ p xs k j, o = .ref p ∧ i = .int k ∧ H p = some (.lst xs) ∧ ixN xs.length k = some j ∧ Q (upd H p (.lst (xs.set j v)))
theorem set_list : PSet X rSetL := by
  intro pins s σ H o i v ov iv u Q I ro ri rv h
  obtain ⟨p, xs, k, j, rfl, rfl, hp, hj, q⟩ := h
  cases ro
  obtain ⟨t, rfl⟩ := ri
  obtain ⟨its, n, r, ho, hz⟩ := I.lst hp
  obtain ⟨h1, h2, h3, h4⟩ := ixN_seq hj
  have hl := r.length
  have hn := line63
  have I' : Inv X pins σ (upd H p (.lst (xs.set j v))) { s with heap := s.heap.update p (Obj.mapSeq (·.setIfInBounds j u)) } :=
    I.lstUpd hp ho (mapSeq_set its n j u) (r.set rv j) (by rw [List.length_set]; exact hz) s.toks
  by_cases h0 : 0 ≤ k
  · have hk : k.toNat = j := by
      rw [seqIndex_of h0 h4] at h1
      exact Option.some.inj h1
    exact PySem.W.ki_setAt ho h0 (by omega) (by rw [List.size_toArray, ← hl]; exact h4) (by rw [hk]; exact ⟨_, I', q⟩)
  · have hk : (k + (its.toArray.size : Int)).toNat = j := by
      rw [seqIndex_neg (by omega) h3] at h1
      rw [List.size_toArray, ← hl]
      exact Option.some.inj h1
    exact PySem.W.ki_setBack ho (by omega) (by rw [List.size_toArray, ← hl]; exact h3) (by omega) (by rw [hk]; exact ⟨_, I', q⟩)
theorem slice_bounds (lo hi : Option Int) (n : Nat) : (sliceBounds lo hi none n).1 = ((HT.sIx n 0 lo : Nat) : Int) ∧ (sliceBounds lo hi none n).2.1 = ((HT.sIx n n hi : Nat) : Int) ∧ (sliceBounds lo hi none n).2.2 = 1 := by
  refine ⟨?_, ?_, rfl⟩
  · cases lo with
    | none => simp [sliceBounds, HT.sIx]
    | some i =>
      simp only [sliceBounds, HT.sIx, Option.getD_none, show (1 : Int) > 0 by decide, if_true]
      by_cases h : i < 0
      · simp only [h, if_true] <;> omega
      · simp only [h, if_false] <;> omega
  · cases hi with
    | none => simp [sliceBounds, HT.sIx]
    | some i =>
      simp only [sliceBounds, HT.sIx, Option.getD_none, show (1 : Int) > 0 by decide, if_true]
      by_cases h : i < 0
      · simp only [h, if_true] <;> omega
      · simp only [h, if_false] <;> omega
theorem slicePick_cut (its : List Value) (lo hi : Option Int) : slicePick its.toArray lo hi none = ((its.drop (HT.sIx its.length 0 lo)).take (HT.sIx its.length its.length hi - HT.sIx its.length 0 lo)).toArray := by
  obtain ⟨h1, h2, h3⟩ := slice_bounds lo hi its.toArray.size
  unfold slicePick
  rw [h1, h2, h3]
  simp only [sliceRange_one, pick_run, List.size_toArray] <;> rfl
inductive rSlL (K : PySem.W.Frag) (x : V) (lo hi : Option Int) (H : Hp) (Q : VK) : Prop
  | mk (a : Addr) (xs : List V) (ex : x = .ref a) (s : SqL K H a xs) (q : ∀ p, H p = none → Q (.ref p) (upd H p (.lst (cutV xs lo hi)))) : rSlL K x lo hi H Q
theorem sl_list : SlR X (rSlL X.K) := by
  intro pins s σ H x v vl vu lo hi sl Q I rx hs pl pu h
  obtain ⟨a, xs, rfl, hx, q⟩ := h
  cases rx
  obtain ⟨its, r, ht, hz⟩ := I.list hx
  have hlen := r.length
  refine ⟨"list", _, slot_list_getitem.lookup, ht.isList.typeIs, ?_⟩
  refine wpAny_getItem_list_slice ht.isList hs pl pu .none (by simp) ?_ (by rw [List.size_toArray] <;> omega)
  rw [slicePick_cut, ← hlen]
  refine ⟨.ref s.heap.objs.size, _, I.laid (t' := s.toks) (o := .lst (cutV xs lo hi)) (fun b ob q => Heap.get?_push_of_some _ q) (Nat.le_refl _) ?_, rfl, q _ (I.hok.fresh (Nat.le_refl _))⟩
  exact ⟨Nat.le_trans (cutV_length xs lo hi) hz, _, 0, (r.drop (HT.sIx xs.length 0 lo)).take (HT.sIx xs.length xs.length hi - HT.sIx xs.length 0 lo), Heap.get?_push_size _ rfl⟩
noncomputable def flatV : V → Bool
  | .non => true
  | .bl _ => true
  | .int _ => true
  | .str _ => true
  | _ => false
noncomputable def eqV : V → V → Bool
  | .non, .non => true
  | .bl a, .bl b => a == b
  | .bl a, .int b => (if a then 1 else 0) == b
  | .int a, .bl b => a == (if b then 1 else 0)
  | .int a, .int b => a == b
  | .str a, .str b => a == b
  | _, _ => false
theorem eqAt_V {A : Around} {s : Shared} {y x : V} {u v : Value} (ry : RelV y u) (rx : RelV x v) (fy : flatV y = true) (fx : flatV x = true) : SeqAt.EqAt A s u v (eqV y x) := by
  cases y with
  | non =>
    cases ry
    cases x with
    | non => cases rx; exact SeqAt.EqAt.same _
    | bl b => cases rx; exact SeqAt.EqAt.none_bool b
    | int b => obtain ⟨t, rfl⟩ := rx; exact SeqAt.EqAt.none_int b t
    | str b => obtain ⟨t, rfl⟩ := rx; exact SeqAt.EqAt.none_str b t
    | _ => exact absurd (show false = true from fx) Bool.false_ne_true
  | bl a =>
    cases ry
    cases x with
    | non => cases rx; exact SeqAt.EqAt.bool_none a
    | bl b => cases rx; exact SeqAt.EqAt.bool_bool a b
    | int b => obtain ⟨t, rfl⟩ := rx; exact SeqAt.EqAt.bool_int a b t
    | str b => obtain ⟨t, rfl⟩ := rx; exact SeqAt.EqAt.bool_str a b t
    | _ => exact absurd (show false = true from fx) Bool.false_ne_true
  | int a =>
    obtain ⟨t', rfl⟩ := ry
    cases x with
    | non => cases rx; exact SeqAt.EqAt.int_none a t'
    | bl b => cases rx; exact SeqAt.EqAt.int_bool a t' b
    | int b => obtain ⟨t, rfl⟩ := rx; exact SeqAt.EqAt.int_int a t' b t
    | str b => obtain ⟨t, rfl⟩ := rx; exact SeqAt.EqAt.int_str a t' b t
    | _ => exact absurd (show false = true from fx) Bool.false_ne_true
  | str a =>
    obtain ⟨t', rfl⟩ := ry
    cases x with
    | non => cases rx; exact SeqAt.EqAt.str_none a t'
    | bl b => cases rx; exact SeqAt.EqAt.str_bool a t' b
    | int b => obtain ⟨t, rfl⟩ := rx; exact SeqAt.EqAt.str_int a t' b t
    | str b => obtain ⟨t, rfl⟩ := rx; exact SeqAt.EqAt.str_str a t' b t
    | _ => exact absurd (show false = true from fx) Bool.false_ne_true
  | _ => exact absurd (show false = true from fy) Bool.false_ne_true
noncomputable def eqU (x : V) (u : Value) : Bool := match u with
  | .none => eqV .non x
  | .bool b => eqV (.bl b) x
  | .int i _ => eqV (.int i) x
  | .str z _ => eqV (.str z) x
  | _ => false
theorem eqU_of {x y : V} {u : Value} (r : RelV y u) (f : flatV y = true) : eqU x u = eqV y x := by
  cases y with
  | non => cases r; rfl
  | bl b => cases r; rfl
  | int i => obtain ⟨t, rfl⟩ := r; rfl
  | str z => obtain ⟨t, rfl⟩ := r; rfl
  | _ => exact absurd (show false = true from f) Bool.false_ne_true
theorem mem_eqAt {A : Around} {s : Shared} {x : V} {v : Value} (rx : RelV x v) (fx : flatV x = true) : ∀ {xs : List V} {us : List Value}, Vals xs us → xs.all flatV = true → ∀ u ∈ us, SeqAt.EqAt A s u v (eqU x u)
  | _, _, .nil, _ => fun u hu => by cases hu
  | y :: xs, u :: us, .cons r t, f => fun u' hu => by
    rw [List.all_cons, Bool.and_eq_true] at f
    rcases List.mem_cons.mp hu with rfl | hu
    · rw [eqU_of r f.1]; exact eqAt_V r rx f.1 fx
    · exact mem_eqAt rx fx t f.2 u' hu
theorem call_len_seq : CallR X (.builtin "len") (fun xs H Q => ∃ p ys, xs = [.ref p] ∧ (SqL X.K H p ys ∨ SqT X.K H p ys) ∧ Q (.int ys.length) H) := by
  intro pins s σ H xs us Q I r h
  obtain ⟨p, ys, rfl, hq, q⟩ := h
  obtain ⟨u, rfl, rx⟩ := vals1 r
  cases rx
  have hn := line63
  rcases hq with hq | hq
  · obtain ⟨its, r', pl, hz⟩ := I.list hq
    have hlen := r'.length
    exact Calls.call_len_list pl.isList (by simp only [List.size_toArray] <;> omega) ⟨.int ys.length, H, I.tok _, ⟨s.toks + 1, by rw [List.size_toArray, hlen]⟩, q⟩
  · obtain ⟨its, r', pl, hz⟩ := I.tuple hq
    have hlen := r'.length
    exact len_tuple pl (by simp only [List.size_toArray] <;> omega) ⟨.int ys.length, H, I.tok _, ⟨s.toks + 1, by rw [List.size_toArray, hlen]⟩, q⟩
theorem call_len_str : CallR X (.builtin "len") (fun xs H Q => ∃ z, xs = [.str z] ∧ z.length ≤ sizeLine ∧ Q (.int z.length) H) := by
  intro pins s σ H xs us Q I r h
  obtain ⟨z, rfl, hz, q⟩ := h
  obtain ⟨u, rfl, t, rfl⟩ := vals1 r
  have hn := line63
  exact len_str (by omega) ⟨.int z.length, H, I.tok _, ⟨_, rfl⟩, q⟩
theorem call_list_of : CallR X (.type "list") (fun xs H Q => ∃ p ys, xs = [.ref p] ∧ (SqL X.K H p ys ∨ SqT X.K H p ys) ∧ ∀ l, H l = none → Q (.ref l) (upd H l (.lst ys))) := by
  intro pins s σ H xs us Q I r h
  obtain ⟨p, ys, rfl, hq, q⟩ := h
  obtain ⟨u, rfl, rx⟩ := vals1 r
  cases rx
  have fin : ∀ (its : List Value), Vals ys its → ys.length ≤ sizeLine → ∀ (h' : Heap) (c' : Nat), (∀ b o', s.heap.get? b = some o' → h'.get? b = some o') →
      h'.get? s.heap.objs.size = some { cls := .type "list", dict := none, data := .seq its.toArray c', slots := #[] } → EP X pins σ Q (.ref s.heap.objs.size) { s with heap := h' } := fun its r' hz h' c' kp e =>
    ⟨.ref s.heap.objs.size, _, I.laid (t' := s.toks) kp (Nat.le_refl _) (show ObjOk X.prog X.w _ h' _ (.lst ys) from ⟨hz, its, c', r', e⟩), rfl, q _ (I.hok.fresh (Nat.le_refl _))⟩
  rcases hq with hq | hq
  · obtain ⟨its, r', pl, hz⟩ := I.list hq
    have hlen := r'.length
    obtain ⟨o, ho, hc, n, hd⟩ := pl.isList
    exact call_list_seq p (.inl rfl) ho hc hd (fun h' c' kp e => fin its r' hz h' c' kp e) (by simp only [List.size_toArray] <;> omega)
  · obtain ⟨its, r', pl, hz⟩ := I.tuple hq
    have hlen := r'.length
    obtain ⟨o, ho, hc, n, hd⟩ := pl
    exact call_list_seq p (.inr rfl) ho hc hd (fun h' c' kp e => fin its r' hz h' c' kp e) (by simp only [List.size_toArray] <;> omega)
theorem call_tuple_of : CallR X (.type "tuple") (fun xs H Q => ∃ p ys, xs = [.ref p] ∧ ((SqL X.K H p ys ∧ ∀ l, H l = none → Q (.ref l) (upd H l (.tup ys))) ∨ (SqT X.K H p ys ∧ Q (.ref p) H))) := by
  intro pins s σ H xs us Q I r h
  obtain ⟨p, ys, rfl, h⟩ := h
  obtain ⟨u, rfl, rx⟩ := vals1 r
  cases rx
  rcases h with ⟨hq, q⟩ | ⟨hq, q⟩
  · obtain ⟨its, r', pl, hz⟩ := I.list hq
    have hlen := r'.length
    refine call_tuple_list pl.isList (fun h' kp => ?_) (by simp only [List.size_toArray] <;> omega)
    have I1 : Inv X pins σ H { s with heap := h' } := I.kept (t' := s.toks) kp
    have I2 : Inv X pins σ (upd H h'.objs.size (.tup ys)) { s with heap := h'.push { cls := .type "tuple", data := .seq its.toArray } } :=
      I1.laid (t' := s.toks) (fun b o e => Heap.get?_push_of_some _ e) (Nat.le_refl _) (show ObjOk X.prog X.w _ _ _ (.tup ys) from ⟨hz, its, r', IsTup.new _ _⟩)
    exact ⟨.ref h'.objs.size, _, I2, rfl, q _ (I1.hok.fresh (Nat.le_refl _))⟩
  · obtain ⟨its, r', pl, hz⟩ := I.tuple hq
    exact call_tuple_same pl ⟨.ref p, H, I, rfl, q⟩
noncomputable def tyV (K : PySem.W.Frag) (T : String) (x : V) (H : Hp) : Prop := match x with
  | .str _ => T = "str"
  | .int _ => T = "int"
  | .ref p => (T = "list" ∧ ∃ xs, SqL K H p xs) ∨ (T = "tuple" ∧ ∃ o, K.lookup p = some o ∧ o.cls = .type "tuple" ∧ o.dict = none) ∨
      (T = "dict" ∧ ((∃ kvs, H p = some (.dK kvs)) ∨ ∃ kvs, H p = some (.dT kvs))) ∨ (T = "set" ∧ ∃ S n, H p = some (.set S n))
  | _ => False
theorem tyV_is {pins : List (Addr × Obj)} {σ : St} {H : Hp} {s : Shared} {T : String} {x : V} {v : Value} (I : Inv X pins σ H s) (r : RelV x v) (ty : tyV X.K T x H) :
    s.TypeIs v T ∧ ∀ a, v = .ref a → ∃ ob, s.heap.get? a = some ob ∧ ob.dict = none := by
  cases x with
  | str z =>
    obtain ⟨t, rfl⟩ := r
    cases (show T = "str" from ty)
    exact ⟨typeIs_str s z t, fun _ e => nomatch e⟩
  | int i =>
    obtain ⟨t, rfl⟩ := r
    cases (show T = "int" from ty)
    exact ⟨typeIs_int s i t, fun _ e => nomatch e⟩
  | ref p =>
    cases r
    rcases ty with ⟨rfl, xs, hq⟩ | ⟨rfl, o, hk, hc, hd⟩ | ⟨rfl, hk⟩ | ⟨rfl, S, n, hk⟩
    · obtain ⟨its, _, pl, _⟩ := I.list hq
      refine ⟨pl.isList.typeIs, fun a e => ?_⟩
      cases e
      obtain ⟨o, n, e, c, hd, _⟩ := pl
      exact ⟨o, e, hd⟩
    · refine ⟨⟨o, I.kIn p o hk, hc⟩, fun a e => ?_⟩
      cases e
      exact ⟨o, I.kIn _ o hk, hd⟩
    · have z : ∃ o, s.heap.get? p = some o ∧ o.ExactDict := by
        rcases hk with ⟨kvs, hk⟩ | ⟨kvs, hk⟩
        · obtain ⟨_, _, _, _, o, _, _, e, ex, _⟩ := I.hok p _ hk
          exact ⟨o, e, ex⟩
        · obtain ⟨_, _, _, _, o, _, _, e, ex, _⟩ := I.hok p _ hk
          exact ⟨o, e, ex⟩
      obtain ⟨o, e, ex⟩ := z
      refine ⟨⟨o, e, ex.1⟩, fun a e2 => ?_⟩
      cases e2
      exact ⟨o, e, ex.2.1⟩
    · obtain ⟨o, _, _, _, e, ex, _⟩ := I.hok p _ hk
      refine ⟨⟨o, e, ex.1⟩, fun a e2 => ?_⟩
      cases e2
      exact ⟨o, e, ex.2.1⟩
  | _ => exact False.elim ty
noncomputable def tBM (K : PySem.W.Frag) (T : String) (r : V → List V → Hp → VK → Prop) (to : TE) (t : TA) : TE := fun σ H Q => to σ H fun x H1 => tyV K T x H1 ∧ t σ H1 fun xs H2 => r x xs H2 Q
variable {o e : Expr} {es : List Expr} {to : TE} {t : TA} {name : Str} {apos cpos : Pos} {T id : String} {r : V → List V → Hp → VK → Prop}
theorem pe_bm (pa : PlainAttrs T) (slot : Slot T name id) (hty : typeOf (.builtin id) = pure (.type "method_descriptor")) (hm : MtR X id r) (ho : PE X o to) (ha : PA X (e :: es) t)
    (hbase : attributeBase o name X.env (eval o X.env) = eval o X.env := by rfl)
    (hfew : ((backTo cpos (starEach (e :: es) X.env)).all (fun x => !x.1) && (backToKw cpos (keywordEach [] X.env)).all (fun x => x.1.isSome)
      && decide ((e :: es).length + ([] : List Keyword).length + (if ([] : List Keyword).isEmpty then 0 else 1) < 30)) = true := by rfl)
    (hline : (apos.endLine == cpos.line) = true := by rfl) (hs : starEach (e :: es) X.env = (false, eval e X.env) :: starEach es X.env := by rfl) (hplain : (backTo cpos (starEach es X.env)).any (·.1) = false := by rfl) :
    PE X (.Call (.Attribute o name apos) (e :: es) [] cpos) (tBM X.K T r to t) := by
  intro pins s σ H Q I h
  refine wpAny_Call_method_late hbase hfew hline rfl (thn (ho pins s σ H _ I h) fun v s1 ⟨x, H1, I1, r1, ty, q1⟩ => ?_)
  obtain ⟨h1, h2⟩ := tyV_is I1 r1 ty
  refine ⟨T, id, pa, slot, hty, h1, h2, ?_⟩
  have hA := ha cpos pins s1 σ H1 _ I1 q1
  rw [hs] at hA ⊢
  refine Calls.callWith_builtin (by show (false || (backTo cpos (starEach es X.env)).any (·.1)) = false; rw [hplain] <;> rfl) (Calls.evalArgs_plain ?_)
  exact thn hA fun us s2 ⟨vs, H2, I2, r2, q2⟩ => hm pins s2 σ H2 x vs v us Q I2 r1 r2 q2
end
end L2
namespace L2
open PySem PySem.Spec PyProof.Rows
noncomputable def MtM (X : Cx) (id : String) (r : V → List V → Hp → VK → Prop) : Prop :=
  ∀ (pins : List (Addr × Obj)) (s : Shared) (σ : St) (H : Hp) (x : V) (xs : List V) (v : Value) (us : List Value) (Q : VK), Inv X pins σ H s → RelV x v → Vals xs us → r x xs H Q →
    wpAny (model X.prog X.w) X.A (call (.builtin id) (v :: us)) (EP X pins σ Q) X.xe s
theorem Vals.one {x : V} {us : List Value} (h : Vals [x] us) : ∃ u, us = [u] ∧ RelV x u := by
  cases h with
  | cons r t => cases t; exact ⟨_, rfl, r⟩
section
variable {X : Cx} {pins : List (Addr × Obj)} {σ : St} {H : Hp} {s : Shared} {l b : Addr} {xs ys zs : List V}
theorem Inv.lset {its its' : List Value} {n : Nat} {f : Array Value → Array Value} {t' : Nat} (I : Inv X pins σ H s) (hH : H l = some (.lst xs))
    (e : s.heap.get? l = some { cls := .type "list", data := .seq its.toArray n }) (hf : f its.toArray = its'.toArray) (hv : Vals ys its') (hz : ys.length ≤ sizeLine) :
    Inv X pins σ (upd H l (.lst ys)) { s with heap := s.heap.update l (Obj.mapSeq f), toks := t' } := by
  have q := PySem.IsL.update e f
  rw [hf] at q
  refine I.write (x := l) (e := l) (by rw [hH]; exact trivial) (.inl rfl) (fun b' u hb hu => (Heap.get?_update_other s.heap (Obj.mapSeq f) (Ne.symm hb)).trans hu) ⟨_, q⟩ ?_
  exact ⟨hz, its', _, hv, q⟩
theorem Inv.lnew {its : List Value} {t' : Nat} (I : Inv X pins σ H s) (hv : Vals ys its) (hz : ys.length ≤ sizeLine) :
    Inv X pins σ (upd H s.heap.objs.size (.lst ys)) { s with heap := s.heap.push { cls := .type "list", data := .seq its.toArray }, toks := t' } :=
  I.laid (fun _ _ q => Heap.get?_push_of_some _ q) (Nat.le_refl _) ⟨hz, its, 0, hv, Heap.get?_push_size _ rfl⟩
theorem Inv.fresh (I : Inv X pins σ H s) : H s.heap.objs.size = none := I.hok.fresh (Nat.le_refl _)
theorem Inv.lstM (I : Inv X pins σ H s) (hH : H l = some (.lst xs)) : xs.length ≤ sizeLine ∧ ∃ (its : List Value) (n : Nat), Vals xs its ∧ xs.length = its.length ∧ s.heap.get? l = some { cls := .type "list", data := .seq its.toArray n } := by
  obtain ⟨z, its, n, r, e⟩ := I.hok l _ hH
  exact ⟨z, its, n, r, r.length, e⟩
end
section
variable {X : Cx}
inductive rAppend (x : V) (vs : List V) (H : Hp) (Q : VK) : Prop
  | mk (l : Addr) (xs : List V) (y : V) (ex : x = .ref l) (ev : vs = [y]) (h : H l = some (.lst xs)) (z : xs.length < sizeLine) (q : Q .non (upd H l (.lst (xs ++ [y])))) : rAppend x vs H Q
theorem mt_append : MtM X "list.append" rAppend := by
  intro pins s σ H x vs v us Q I rx rv h
  obtain ⟨l, xs, y, rfl, rfl, hH, hz, q⟩ := h
  cases rx
  obtain ⟨u, rfl, ru⟩ := rv.one
  obtain ⟨z, its, n, r, hl, e⟩ := I.lstM hH
  refine call_meets F.slot_list_append ⟨_, e, rfl⟩ F.entry_list_append (F.args_list_append_2 _ _) (PySem.list_append l its.toArray n u (by rw [List.size_toArray]; omega)) ⟨e, ?_⟩
  refine ⟨.non, _, I.lset (its' := its ++ [u]) hH e (by simp) (r.append (.cons ru .nil)) ?_, rfl, q⟩
  rw [List.length_append, List.length_singleton]
  omega
end
section
variable {prog : Program} {w : World} {A : Around} {E : Value → Shared → Prop} {s : Shared}
set_option maxRecDepth 100000 in
end
section
variable {X : Cx}
end
end L2
namespace Att
open PySem PySem.W PySem.Calls PyProof.Rows
theorem ints_of_wellAll {P : Params} {h : Heap} : ∀ (ns : List Int) (vs : List Value), WellAll P h vs (ns.map WData.int) → IntsAre vs ns := by
  intro ns
  induction ns with
  | nil =>
    intro vs w
    rw [List.map_nil] at w
    cases w
    exact .nil
  | cons n ns ih =>
    intro vs w
    rw [List.map_cons] at w
    cases w with
    | cons a b =>
      cases a
      exact .cons _ _ (ih _ b)
theorem script_of {l : OpenLaw} {n : Nat} (hn : l.most = some n) {P : Params} {h : Heap} {args : List WData} {vals : List Value}
    (hpre : l.row.toRowW.claim.pre args = true) (hwl : WellAll P h vals args) :
    ∃ a vs ns, vals = [Value.ref a] ∧ args = [WData.list (ns.map WData.int)] ∧ h.get? a = some { cls := .type "list", data := .seq vs.toArray } ∧ IntsAre vs ns ∧ ns.length ≤ n := by
  have hsh : WShape.hasAll [] args [.list .int] = true := (pre_splitW hpre).1
  have hc : l.pre.holds [] { args := args } = true := (pre_splitW hpre).2
  obtain ⟨d, r, rfl, h1, h2⟩ := hasAllW_cons hsh
  obtain rfl := hasAllW_nil h2
  obtain ⟨xs, rfl, h3⟩ := hasW_list h1
  obtain ⟨ns, rfl⟩ := items_int h3
  have hlen : ns.length ≤ n := by
    unfold OpenLaw.pre at hc
    have h4 : (WTm.not (.lt (.lit (.int (n : Int))) (.len (.arg 0)))).holds [] { args := [.list (ns.map .int)] } = true := by
      have h4 := (holds_andW hc).1
      rw [hn] at h4
      exact h4
    have h5 := condW_of h4 (w_not (w_lt w_lit (w_len_list (w_arg rfl))))
    rw [List.length_map] at h5
    refine Nat.le_of_not_lt fun q => ?_
    have q' : (n : Int) < ((ns.length : Nat) : Int) := by omega
    first
      | (rw [decide_eq_true q'] at h5; exact absurd h5 (by decide))
      | (simp at h5; omega)
  cases hwl with
  | cons w1 w2 =>
    cases w2
    cases w1 with
    | list ho hall => exact ⟨_, _, ns, rfl, rfl, ho, ints_of_wellAll ns _ hall, hlen⟩
theorem post_true (l : OpenLaw) (args : List WData) : l.row.toRowW.claim.post args (.bool true) args = true :=
  postW_of (r := l.row.toRowW) (X := (true == true))
    (show WShape.has [] (.bool true) .bool = true by first | rfl | decide | simp [WShape.has, WShape.arms, WShape.armsAll])
    (show (WTm.eq .res (.lit (.bool true))).value [] { args := args, res := some (.bool true), after := args } = some (.bool (true == true)) from w_eq_bool (w_res rfl) w_lit) rfl
theorem attach_call {l : OpenLaw} {n : Nat} {q : Program} {loose : List Str} {XP : (Str → Option Value) → Heap → Prop} {YP : World → Heap → Prop} {d : DefRec}
    (hn : l.most = some n) (hdf : d.params.defaults = [])
    (call : ∀ (w : World) (s₀ s₁ : Shared) (mg mb : Str → Option Value) (fa : Addr) (o : Obj) (pm cd doc : Value) (a : Addr) (vs : List Value) (ns : List Int),
      Ground q loose [] XP w s₀ mg mb s₁.heap → YP w s₁.heap →
      s₁.heap.get? fa = some o → o.data = .func (docDef d.name d.params d.body d.scope pm cd doc) → s₁.heap.CodeRec cd d.name → mg d.name = some (.ref fa) →
      s₁.heap.get? a = some { cls := .type "list", data := .seq vs.toArray } → IntsAre vs ns → ns.length ≤ n → s₁.gens = #[] →
      codeAny (model l.prog w) callerA (.call (.ref fa) ⟨[.ref a], []⟩) (fun r s' => r = .ok (.ret (.bool true)) ∧ OldK s₁.heap s'.heap ∧ s'.os = s₁.os ∧ AllBare s'.gens) s₁) :
    WalkO q loose XP YP l.row.toRowW d [] (fun f vs => PySem.call f vs) := by
  intro w s₀ s₁ mg mb G Y fa o pm cd doc dV kV ho hd hcd hD hmg hg args vals as hpre hlay hrd hwl hlo
  obtain rfl : dV = .none := Dflts.none hD hdf
  obtain rfl : kV = .none := Dflts.noKw hD
  obtain ⟨a, vs, ns, rfl, rfl, hobj, hints, hlen⟩ := script_of hn hpre hwl
  refine enter_call (codeAny_mono (call w s₀ s₁ mg mb fa o pm cd doc a vs ns G Y ho (fd_plain hd) hcd hmg hobj hints hlen hg) fun r s' hq => ?_)
  obtain ⟨rfl, h2, h3, h4⟩ := hq
  exact ⟨.inl ⟨.bool true, .bool true, [], rfl, fun _ => rfl, .bool true, post_true l _, fun _ => ⟨List.Pairwise.nil, fun _ hm => (nomatch hm)⟩⟩, h2, h3, h4⟩
section
variable {prog : Program} {w : World} {A : Around} {E : Value → Shared → Prop} {s : Shared} {K : Frag}
end
end Att
namespace L2
open PySem PySem.Spec PyProof.Rows
theorem vals_ints : ∀ {vs : List Value} {ns : List Int}, IntsAre vs ns → Vals (ns.map V.int) vs
  | _, _, .nil => .nil
  | _, _, .cons n t h => .cons ⟨t, rfl⟩ (vals_ints h)
noncomputable def Only (H : Hp) : Prop := ∀ b, H b = none ∨ ∃ o xs, H b = some (.frz o (.lst xs))
theorem law_call {P : Program} {w : World} {K : PySem.W.Frag} {mg mb : Str → Option Value} {CX : CXT} {k : Nat} {fa a : Addr} {fd : FuncData} {x : Str} {sp : Sp} {s₁ : Shared} {vs : List Value} {ns : List Int}
    (KX : K.In s₁.heap) (hns : s₁.heap.Ns mainGlobals mg) (hb : s₁.heap.Ns builtinsNs mb) (hbb : ∀ x : Str, x ≠ "__name__" → mb x = bootBuiltins x) (hlim : s₁.heap.NoLimit) (hg : s₁.gens = #[])
    (ha : s₁.heap.get? a = some { cls := .type "list", data := .seq vs.toArray }) (hi : IntsAre vs ns) (hl : ns.length ≤ sizeLine) (hr : Room k callerA)
    (F : ∀ base : Heap, K.In base → base.Ns mainGlobals mg → FnOk P w K mg base CX k fa fd [x] sp) (hbind : ∀ (s : Shared) (u : Value), BindsTo s fd ⟨[u], []⟩ [(x, u)])
    (hsp : ∀ H : Hp, Only H → SqL K H a (ns.map V.int) → sp [.ref a] H (fun v _ => v = .bl true) fun _ _ _ => False)
    (hCX : ∀ H e s', CX [] H s₁ (fun _ _ _ => False) e s' → False) :
    codeAny (model P w) callerA (.call (.ref fa) ⟨[.ref a], []⟩) (fun r s' => r = .ok (.ret (.bool true)) ∧ OldK s₁.heap s'.heap ∧ s'.os = s₁.os ∧ AllBare s'.gens) s₁ := by
  have rv := vals_ints hi
  have lenV := hi.length
  have core : ∀ H : Hp, Only H → SqL K H a (ns.map V.int) → HOk P w H s₁.heap → (∀ b, H b ≠ none → b = a) → (H a ≠ none → K.lookup a = none) →
      codeAny (model P w) callerA (.call (.ref fa) ⟨[.ref a], []⟩) (fun r s' => r = .ok (.ret (.bool true)) ∧ OldK s₁.heap s'.heap ∧ s'.os = s₁.os ∧ AllBare s'.gens) s₁ := by
    intro H hO hS hok hA hK
    have base_of : ∀ {b : Addr} {o : Obj}, s₁.heap.get? b = some o → H b = none → (hidT s₁.heap H).get? b = some o := fun e n => hidT_get e n
    have noA : ∀ {b : Addr} {o : Obj} {es : Array DictEntry} {ep : Nat}, s₁.heap.get? b = some o → o.data = .dict es ep → H b = none := fun {b o es ep} e d => by
      cases q : H b with
      | none => rfl
      | some u =>
        have e' : b = a := hA b (by rw [q]; simp)
        subst e'
        rw [ha] at e; cases e
        have d' : Data.seq vs.toArray _ = Data.dict es ep := d
        cases d'
    have nsK : ∀ {b : Addr} {m : Str → Option Value}, s₁.heap.Ns b m → (hidT s₁.heap H).Ns b m := fun {b m} ⟨o, es, ep, e, d, r⟩ => ⟨o, es, ep, base_of e (noA e d), d, r⟩
    have hKb : K.In (hidT s₁.heap H) := fun b o e => base_of (KX b o e) (by
      cases q : H b with
      | none => rfl
      | some u =>
        have e' : b = a := hA b (by rw [q]; simp)
        subst e'
        rw [hK (by rw [q]; simp)] at e; cases e)
    have hM : Mod K mg (hidT s₁.heap H) := ⟨hKb, nsK hns, ⟨mb, nsK hb, hbb⟩, let ⟨mc, h1, h2⟩ := hlim; ⟨mc, nsK h1, h2⟩⟩
    have e0 : Env0 P w K mg (hidT s₁.heap H) callerA [] s₁ H := ⟨rfl, hM, fun b o e => of_hidT e, Nat.le_of_eq (hidT_size _ _), trivial, fun b hb => absurd (show b ∈ ([] : List Addr) from hb) (by simp), hok, .of_eq hg⟩
    refine codeAny_mono ((F _ hKb (nsK hns)).run callerA [] s₁ H ⟨[.ref a], []⟩ [.ref a] [.ref a] _ _ hr e0 (hbind s₁ (.ref a)) (.cons rfl .nil) (hsp H hO hS)) fun r s' h => ?_
    cases r with
    | error e => exact (hCX H e s' h).elim
    | ok fl =>
      cases fl with
      | next => exact False.elim h
      | brk => exact False.elim h
      | cont => exact False.elim h
      | ret u =>
        obtain ⟨v, H', os, bare, un, hok', r', q⟩ := h
        have q' : v = .bl true := q
        subst q'
        obtain rfl : u = Value.bool true := r'
        refine ⟨rfl, OldK.of_keep fun b o e => ?_, os, bare⟩
        cases q : H b with
        | none => exact un.keep b o e q (by intro z; exact absurd (show b ∈ ([] : List Addr) from z) (by simp)) (by simp)
        | some u =>
          rcases hO b with z | ⟨ob, xs, z⟩
          · rw [q] at z; cases z
          · have z2 := un.frzs b ob _ z
            obtain ⟨e1, _⟩ := hok b _ z
            obtain ⟨e2, _⟩ := hok' b _ z2
            rw [e] at e1; cases e1
            exact e2
  cases hk : K.lookup a with
  | some o =>
    have e := KX a o hk
    rw [ha] at e
    cases e
    refine core (fun _ => none) (fun _ => .inl rfl) (.inr ⟨_, vs.toArray, _, hk, rfl, rfl, rfl, by rw [List.size_toArray, lenV]; exact hl, by simpa using rv⟩) (fun b u z => by have z' : (none : Option HO) = some u := z; cases z') (fun b z => absurd rfl z) fun z => absurd rfl z
  | none =>
    refine core (fun b => if b = a then some (.frz { cls := .type "list", data := .seq vs.toArray } (.lst (ns.map V.int))) else none) (fun b => ?_) (.inl (.inr ⟨{ cls := .type "list", data := .seq vs.toArray }, if_pos rfl⟩)) (fun b u z => ?_) (fun b z => ?_) fun _ => hk
    · by_cases hb : b = a
      · exact .inr ⟨_, _, if_pos hb⟩
      · exact .inl (if_neg hb)
    · by_cases hb : b = a
      · have z' := (if_pos hb).symm.trans z
        cases z'
        subst hb
        exact ⟨ha, by rw [List.length_map]; exact hl, vs, _, rv, ha⟩
      · have z' := (if_neg hb).symm.trans z
        cases z'
    · by_cases hb : b = a
      · exact hb
      · exact absurd (if_neg hb) z
end L2
namespace L2
open PySem PySem.Spec PyProof.Rows
theorem walk_of {l : PySem.W.OpenLaw} {n k : Nat} {q : Program} {loose : List Str} {XP : (Str → Option Value) → Heap → Prop} {YP : World → Heap → Prop} {d : DefRec} {K : Params → PySem.W.Frag} {CX : World → CXT} {sp : World → Sp} {x : Str}
    (hn : l.most = some n) (hn2 : n ≤ sizeLine) (hdf : d.params.defaults = []) (hr : Room k callerA)
    (hY : ∀ (w : World) (h : Heap), YP w h → (K w.params).In h)
    (F : ∀ (w : World) (mg : Str → Option Value) (fa : Addr) (h : Heap), (K w.params).In h → h.Ns mainGlobals mg → mg d.name = some (.ref fa) →
      ∃ fd : FuncData, (∀ (s : Shared) (u : Value), BindsTo s fd ⟨[u], []⟩ [(x, u)]) ∧
        ∀ base : Heap, (K w.params).In base → base.Ns mainGlobals mg → FnOk l.prog w (K w.params) mg base (CX w) k fa fd [x] (sp w))
    (hsp : ∀ (w : World) (H : Hp) (a : Addr) (ns : List Int), ns.length ≤ n → Only H → SqL (K w.params) H a (ns.map V.int) → sp w [.ref a] H (fun v _ => v = .bl true) fun _ _ _ => False)
    (hCX : ∀ (w : World) (H : Hp) (s : Shared) (e : Value) (s' : Shared), CX w [] H s (fun _ _ _ => False) e s' → False) :
    PySem.W.WalkO q loose XP YP l.row.toRowW d [] (fun f vs => PySem.call f vs) := by
  refine Att.attach_call hn hdf fun w s₀ s₁ mg mb fa o pm cd doc a vs ns G Y ho hd hcd hmg hobj hints hlen hg => ?_
  have KX := hY w _ Y
  obtain ⟨fd, hb, hF⟩ := F w mg fa _ KX G.T.g hmg
  exact law_call KX G.T.g G.T.b G.T.builtins G.T.nolimit hg hobj hints (Nat.le_trans hlen hn2) hr hF hb (fun H hO hS => hsp w H a ns hlen hO hS) fun H e s' => hCX w H s₁ e s'
end L2
namespace L2
open PySem PySem.Spec PyProof.Rows
noncomputable def defArgs (s : Stmt) : Arguments := match s with
  | .FunctionDef _ a _ _ _ _ _ _ _ _ => a
  | _ => { posonlyargs := [], args := [], vararg := none, kwonlyargs := [], kw_defaults := [], kwarg := none, defaults := [] }
noncomputable def defBody (s : Stmt) : List Stmt := match s with
  | .FunctionDef _ _ b _ _ _ _ _ _ _ => b
  | _ => []
noncomputable def defScope (s : Stmt) : Scope := match s with
  | .FunctionDef _ _ _ _ _ _ sc _ _ _ => sc
  | _ => { kind := .function, names := [], isGenerator := false, isCoroutine := false }
noncomputable abbrev E0 : XK := fun _ _ _ => False
structure Fun (K : PySem.W.Frag) (x qual : Str) (st : Stmt) (f : Addr) (fd : FuncData) : Prop where
  ex : ∃ (oc : Value) (od : Option Addr) (kV doc pm : Value) (an : Option Addr) (cdv ct : Value) (osl : Array (Option Value)),
    fd = PySem.W.fnOf x qual (defArgs st) (defBody st) (defScope st) .none kV doc pm an cdv ct ∧ K.lookup f = some ⟨oc, od, .func fd, osl⟩ ∧ PySem.W.codeIn K cdv qual = true
  kp : PySem.W.keepIn K (.ref f) = true
section
variable {P : Program} {w : World} {K : PySem.W.Frag} {mg : Str → Option Value} {base : Heap}
theorem Fun.binds {x qual : Str} {st : Stmt} {f : Addr} {fd : FuncData} {ps : List Str} (F : Fun K x qual st f fd)
    (h : ∀ (kV doc pm : Value) (an : Option Addr) (cdv ct : Value) (us : List Value), us.length = ps.length → bindArgs (PySem.W.fnOf x qual (defArgs st) (defBody st) (defScope st) .none kV doc pm an cdv ct) ⟨us, []⟩ = pure (ps.zip us)) : Binds K fd ps [] := by
  obtain ⟨oc, od, kV, doc, pm, an, cdv, ct, osl, rfl, lk, hcd⟩ := F.ex
  exact .all (h kV doc pm an cdv ct)
theorem fun_mk {x qual : Str} {st : Stmt} {f : Addr} {oc : Value} {od an : Option Addr} {osl : Array (Option Value)} {kV doc pm cdv ct : Value} (l : K.lookup f = some ⟨oc, od, .func (PySem.W.fnOf x qual (defArgs st) (defBody st) (defScope st) .none kV doc pm an cdv ct), osl⟩)
    (c : PySem.W.codeIn K cdv qual = true) (k : PySem.W.keepIn K (.ref f) = true) : Fun K x qual st f (PySem.W.fnOf x qual (defArgs st) (defBody st) (defScope st) .none kV doc pm an cdv ct) := ⟨⟨oc, od, kV, doc, pm, an, cdv, ct, osl, rfl, l, c⟩, k⟩
end
section
variable {X : Cx}
theorem pv (i : Nat) {x : Str} {pos : Pos} (hN : X.N[i]? = some x := by rfl) (hv : Vis X.env.scope x := by first | exact Or.inl rfl | exact Or.inr (Or.inl rfl) | exact Or.inr (Or.inr rfl)) (hd : (x == ("__debug__" : Str)) = false := by decide)
    (hcd : (x == ("__classdict__" : Str)) = false := by decide) : PE X (.Name x pos) (tVar i) := pe_var hN hv hd hcd
end
theorem iteF {A B : Prop} (h : B) : if false = true then A else B := by
  rw [if_neg Bool.false_ne_true]
  exact h
theorem iteT {A B : Prop} (h : A) : if true = true then A else B := by
  rw [if_pos rfl]
  exact h
theorem ite2 {c A B : Prop} [Decidable c] (h1 : c → A) (h2 : ¬ c → B) : if c then A else B := by
  by_cases h : c
  · rw [if_pos h]
    exact h1 h
  · rw [if_neg h]
    exact h2 h
theorem iteNS {c A B : Prop} [Decidable c] (hc : c) (h : B) : if (!decide c) = true then A else B := by
  rw [decide_eq_true hc]
  exact iteF h
noncomputable def Same (H H' : Hp) : Prop := ∀ b o, H b = some o → H' b = some o
theorem Same.refl (H : Hp) : Same H H := fun _ _ h => h
theorem Same.trans {H H1 H2 : Hp} (a : Same H H1) (b : Same H1 H2) : Same H H2 := fun c o h => b c o (a c o h)
theorem Same.free {H H' : Hp} (e : Same H H') {l : Addr} (h : H' l = Option.none) : H l = Option.none := by
  cases q : H l with
  | none => rfl
  | some o =>
    rw [e l o q] at h
    cases h
theorem Same.seq {K : PySem.W.Frag} {H H' : Hp} {a : Addr} {xs : List V} (e : Same H H') (h : SqL K H a xs) : SqL K H' a xs := by
  rcases h with (h | ⟨o, h⟩) | h
  · exact .inl (.inl (e _ _ h))
  · exact .inl (.inr ⟨o, e _ _ h⟩)
  · exact .inr h
end L2
set_option Elab.async false
set_option linter.all false
set_option maxRecDepth 100000
namespace L2
open PySem
noncomputable def fd2 (o : Obj) : Option Value := match o.data with
  | .fields vs => vs[2]?
  | _ => none
noncomputable def KO (o : Obj) : Option Addr × Option Value := (o.dict, fd2 o)
noncomputable def DK (h h' : Heap) : Prop := ∀ (b : Nat) (o : Obj), h.objs[b]? = some o → ∃ o' : Obj, h'.objs[b]? = some o' ∧ KO o' = KO o
theorem DK.refl (h : Heap) : DK h h := fun _ o e => ⟨o, e, rfl⟩
theorem DK.trans {h h1 h2 : Heap} (k : DK h h1) (l : DK h1 h2) : DK h h2 := fun b o e => by
  obtain ⟨o1, e1, d1⟩ := k b o e
  obtain ⟨o2, e2, d2⟩ := l b o1 e1
  exact ⟨o2, e2, d2.trans d1⟩
theorem DK.push {h h' : Heap} {o : Obj} (k : DK h h') : DK h (h'.push o) := fun b ob e => by
  obtain ⟨o', e', d⟩ := k b ob e
  obtain ⟨objs, l⟩ := h'
  have lt : b < objs.size := (Array.getElem?_eq_some_iff.mp e').1
  exact ⟨o', by show (objs.push o)[b]? = some o'; rw [Array.getElem?_push_lt lt, ← e']; exact (Array.getElem?_eq_getElem lt).symm, d⟩
theorem DK.update {h h' : Heap} {a : Addr} {f : Obj → Obj} (k : DK h h') (hf : ∀ o, KO (f o) = KO o) : DK h (h'.update a f) := fun b ob e => by
  obtain ⟨o', e', d⟩ := k b ob e
  obtain ⟨objs, l⟩ := h'
  show ∃ o'', (objs.modify a f)[b]? = some o'' ∧ _
  rw [Array.getElem?_modify]
  have e' : objs[b]? = some o' := e'
  by_cases hab : a = b
  · rw [if_pos hab, e']; exact ⟨f o', rfl, (hf o').trans d⟩
  · rw [if_neg hab]; exact ⟨o', e', d⟩
theorem DK.get {h h' : Heap} (k : DK h h') {b : Addr} {o o' : Obj} (e : h.get? b = some o) (e' : h'.get? b = some o') : KO o' = KO o := by
  obtain ⟨o1, e1, d⟩ := k b o (Heap.get?_some_iff.mp e).1
  have := (Heap.get?_some_iff.mp e').1
  rw [e1] at this; cases this; exact d
noncomputable def KD {α : Type} : Sem α → Prop
  | .pure _ => True
  | .raise _ => True
  | .unsupported _ => True
  | .finish _ => True
  | .rule _ k => KD (k ())
  | .at _ k => KD (k ())
  | .load _ _ k => ∀ o, KD (k o)
  | .update _ _ f k => (∀ o, KO (f o) = KO o) ∧ KD (k ())
  | .alloc _ k => ∀ a, KD (k a)
  | .loadIfAlive _ k => ∀ o, KD (k o)
  | .point _ k => KD (k ())
  | .register _ k => KD (k ())
  | .fresh k => ∀ a, KD (k a)
  | .ask k => ∀ a, KD (k a)
  | .choose _ _ k => ∀ a, KD (k a)
  | .os _ _ k => ∀ a, KD (k a)
  | .call .. => False
  | .handled _ k => ∀ a, KD (k a)
  | .newGen _ k => ∀ a, KD (k a)
  | .genState _ k => ∀ a, KD (k a)
  | .resume .. => False
  | .yield .. => False
  | .stack k => ∀ a, KD (k a)
  | .fork .. => False
  | .thread k => ∀ a, KD (k a)
  | .await .. => False
theorem KD.bind {α β : Type} : ∀ {m : Sem α} {f : α → Sem β}, KD m → (∀ a, KD (f a)) → KD (m >>= f) := by
  intro m f hm hf
  show KD (m.bind f)
  induction m with
  | pure a => exact hf a
  | raise | unsupported | finish => exact True.intro
  | rule _ k ih | «at» _ k ih | point _ k ih | register _ k ih => exact ih () hm
  | update _ _ g k ih => exact ⟨hm.1, ih () hm.2⟩
  | load _ _ k ih | alloc _ k ih | loadIfAlive _ k ih | fresh k ih | ask k ih | choose _ _ k ih | os _ _ k ih | handled _ k ih | newGen _ k ih | genState _ k ih | stack k ih | thread k ih => exact fun a => ih a (hm a)
  | call | resume | yield | fork | await => exact False.elim hm
theorem wp_kd {α : Type} {M : Model} {Γ : Ctx} {Q : α → Pos → Shared → Prop} {E : Value → Pos → Shared → Prop} {h0 : Heap} : ∀ (t : Sem α), KD t → ∀ (p : Pos) (s : Shared), DK h0 s.heap → Sem.wp M Γ t Q E p s →
    Sem.wp M Γ t (fun a p' s' => Q a p' s' ∧ DK h0 s'.heap) (fun e p' s' => E e p' s' ∧ DK h0 s'.heap) p s := by
  intro t
  induction t with
  | pure a => exact fun _ p s k h => ⟨h, k⟩
  | raise e => exact fun _ p s k h => ⟨h, k⟩
  | unsupported | finish | yield | fork | await | register => exact fun _ _ _ _ h => h
  | rule _ k ih | «at» _ k ih | point _ k ih => exact fun hk p s d h => ih () hk _ s d h
  | fresh k ih | os _ _ k ih | newGen _ k ih => exact fun hk p s d h => ih _ (hk _) p _ d h
  | ask k ih | handled _ k ih | stack k ih | thread k ih | loadIfAlive _ k ih => exact fun hk p s d h => ih _ (hk _) p s d h
  | alloc o k ih => exact fun hk p s d h => ih _ (hk _) p _ d.push h
  | load a _ k ih | genState a k ih => exact fun hk p s d ⟨o, ho, h⟩ => ⟨o, ho, ih _ (hk _) p s d h⟩
  | update a _ f k ih => exact fun hk p s d ⟨ha, h⟩ => ⟨ha, ih _ hk.2 p _ (d.update hk.1) h⟩
  | choose _ _ k ih => exact fun hk p s d ⟨ha, h⟩ => ⟨ha, ih _ (hk _) p _ d h⟩
  | call | resume => exact fun hk => False.elim hk
theorem wpAny_kd {α : Type} {M : Model} {A : Around} {t : Sem α} {Q : α → Shared → Prop} {E : Value → Shared → Prop} {s : Shared} (k : KD t) (h : wpAny M A t Q E s) :
    wpAny M A t (fun a s' => Q a s' ∧ DK s.heap s'.heap) (fun e s' => E e s' ∧ DK s.heap s'.heap) s := fun Γ p hΓ => wp_kd t k p s (DK.refl _) (h Γ p hΓ)
theorem wpAny_dkQ {α : Type} {M : Model} {A : Around} {t : Sem α} {Q : α → Shared → Prop} {E : Value → Shared → Prop} {s : Shared} (k : KD t) (h : wpAny M A t (fun a s' => DK s.heap s'.heap → Q a s') E s) : wpAny M A t Q E s :=
  wpAny_mono (wpAny_kd k h) (fun _ _ x => x.1 x.2) fun _ _ x => x.1
theorem KD.ite {α : Type} {c : Prop} [Decidable c] {x y : Sem α} (hx : KD x) (hy : KD y) : KD (if c then x else y) := by split <;> assumption
theorem kd_load {α : Type} {a : Addr} {f : Obj → Sem α} (h : ∀ o, KD (f o)) : KD (load a >>= f) := KD.bind (fun o => True.intro) h
theorem kd_field {v : Value} {i : Nat} : KD (field v i) := by
  unfold field
  refine KD.bind ?_ fun a => by split <;> exact True.intro
  unfold fieldsOf
  split
  · refine KD.bind (fun o => True.intro) fun o => ?_
    split <;> exact True.intro
  · exact True.intro
theorem ko_mapFields {i : Nat} (hi : i ≠ 2) (x : Value) (o : Obj) : KO (Obj.mapFields (·.setIfInBounds i x) o) = KO o := by
  obtain ⟨c, d, dt, sl⟩ := o
  cases dt with
  | fields vs =>
    show (d, (vs.setIfInBounds i x)[2]?) = (d, vs[2]?)
    rw [Array.getElem?_setIfInBounds_ne hi]
  | _ => rfl
theorem kd_setField {v x : Value} {i : Nat} (hi : i ≠ 2) : KD (setField v i x) := by
  unfold setField
  split
  · refine kd_load fun o => ?_
    split
    · exact KD.ite ⟨ko_mapFields hi x, True.intro⟩ True.intro
    · exact True.intro
  · exact True.intro
theorem kd_setFlight {e : Value} {f : Option Addr} : KD (setFlight e f) := by
  unfold setFlight
  exact KD.bind kd_field fun a => KD.ite (kd_setField (by decide)) True.intro
theorem kd_ready : ∀ (l : List Env), KD (readyFrames l)
  | [] => True.intro
  | env :: outer => by
    unfold readyFrames
    split
    · refine kd_load fun o => KD.ite True.intro (KD.bind ?_ fun im => KD.bind ?_ fun bk => KD.bind ⟨fun o => rfl, True.intro⟩ fun _ => kd_ready outer)
      · unfold behindIsImport
        exact KD.ite True.intro (KD.ite True.intro (KD.bind kd_field fun _ => True.intro))
      · unfold keptBack
        split
        · refine KD.ite True.intro ?_
          unfold underTheClaimsCaller
          exact KD.bind (KD.bind (fun a => True.intro) fun _ => True.intro) fun _ => True.intro
        · exact True.intro
    · exact True.intro
theorem kd_frameOf {env : Env} : KD (frameOf env) := by
  unfold frameOf
  refine KD.bind (KD.bind (fun _ => True.intro) fun _ => True.intro) fun l => KD.bind ?_ fun o => by split <;> exact True.intro
  unfold frameObject
  split
  · exact True.intro
  · exact KD.bind (kd_ready _) fun _ => True.intro
theorem kd_entryPlaceOf {f : Addr} {b : Bool} : KD (entryPlaceOf f b) := by
  unfold entryPlaceOf
  refine KD.bind (fun _ => True.intro) fun l => ?_
  split <;> exact True.intro
theorem kd_newEntry {a b c d e : Value} {l : List Value} : KD (EntryCells.newEntry a b c d e l) := by
  unfold EntryCells.newEntry newFields newObj
  show KD (if _ then _ else _)
  refine KD.ite ?_ ?_
  · exact True.intro
  · exact fun _ => True.intro
theorem kd_entry {e a : Value} {env : Env} {f : Addr} {b : Bool} {x : Value} : KD (do let u ← frameOf env; let v ← entryPlaceOf f b; let w ← EntryCells.newEntry a u .none x .none v; setField e 1 w) :=
  KD.bind kd_frameOf fun _ => KD.bind kd_entryPlaceOf fun _ => KD.bind kd_newEntry fun _ => kd_setField (by decide)
theorem kd_noteFrame {e : Value} {env : Env} : KD (noteFrame e env) := by
  unfold noteFrame
  split
  · exact KD.bind kd_field fun a => KD.ite (KD.bind kd_field fun _ => KD.ite True.intro (KD.bind (kd_setField (by decide)) fun _ => kd_entry)) kd_entry
  · exact True.intro
theorem kd_leaving {e : Value} {env : Env} : KD (leaving env e) := by
  unfold leaving
  exact KD.bind kd_noteFrame fun _ => kd_setFlight
noncomputable def Dx (o : Obj) (d : Option Addr) : Prop := (∀ a, d = some a → o.dict = some a) ∧ (d = none → fd2 o = some .none)
theorem Dx.none {o : Obj} (h : fd2 o = some .none) : Dx o Option.none := And.intro (fun _ z => nomatch z) fun _ => h
theorem Dx.dk {h h' : Heap} {b : Addr} {o o' : Obj} {d : Option Addr} (x : Dx o d) (e : h.get? b = some o) (e' : h'.get? b = some o') (k : DK h h') : Dx o' d :=
  ⟨fun a z => (congrArg Prod.fst (k.get e e')).trans (x.1 a z), fun z => (congrArg Prod.snd (k.get e e')).trans (x.2 z)⟩
end L2
set_option Elab.async false
set_option linter.all false
set_option maxRecDepth 100000
set_option maxHeartbeats 2000000
namespace L2
open PySem PySem.Spec PyProof.Rows
theorem ObjOk.isThere {P : Program} {w : World} {H : Hp} {h : Heap} {a : Addr} {o : HO} (x : ObjOk P w H h a o) : ∃ ob, h.get? a = some ob := by
  cases o with
  | lst xs => obtain ⟨_, _, _, _, e⟩ := x; exact ⟨_, e⟩
  | tup xs => obtain ⟨_, _, _, ob, e, _⟩ := x; exact ⟨ob, e⟩
  | dK kvs => obtain ⟨_, _, _, _, ob, _, _, e, _⟩ := x; exact ⟨ob, e⟩
  | dT kvs => obtain ⟨_, _, _, _, ob, _, _, e, _⟩ := x; exact ⟨ob, e⟩
  | set S n => obtain ⟨ob, _, _, _, e, _⟩ := x; exact ⟨ob, e⟩
  | ins C dx fs => obtain ⟨_, _, _, e, _⟩ := x; exact ⟨_, e⟩
  | own y => exact x
  | xd fs => obtain ⟨_, ⟨ob, _, _, e, _⟩, _⟩ := x; exact ⟨ob, e⟩
  | rng lo hi => obtain ⟨_, _, _, e⟩ := x; exact ⟨_, e⟩
  | frz ob u => obtain ⟨e, _⟩ := x; exact ⟨_, e⟩
  | tbl ps => exact ⟨_, (show h.get? a = some _ from x)⟩
  | met f y => exact ⟨_, (show h.get? a = some _ from x)⟩
  | ext φ => obtain ⟨_, e, _⟩ := x; exact e
section
variable {X : Cx} {pins : List (Addr × Obj)} {σ : List (Option V)} {H H' : Hp} {s : Shared} {h' : Heap}
theorem Inv.step2 {g' : Array GenState} {t' : Nat} {d' : Drawn} {ch : List Addr} (I : Inv X pins σ H s)
    (hch : ∀ b ∈ ch, (b ∈ X.ex ∨ X.s₀.heap.get? b = none) ∧ b ≠ X.env.locals ∧ (∀ x c, X.env.cells.lookup x = some c → c ≠ b) ∧ ∀ p ∈ X.pn ++ pins, p.1 ≠ b)
    (keep : ∀ b o, b ≠ X.env.locals → b ∉ X.fs → b ∉ ch → s.heap.get? b = some o → H b = none → h'.get? b = some o)
    (slot : ∀ b o, b ≠ X.env.locals → b ∈ X.fs → b ∉ ch → s.heap.get? b = some o → H b = none → ∃ sl, h'.get? b = some { o with slots := sl }) (free : ∀ b o, b ∉ ch → s.heap.get? b = some o → H b = none → H' b = none)
    (there : ∀ b o, b ∉ ch → s.heap.get? b = some o → ∃ o', h'.get? b = some o')
    (tups : ∀ b xs, H b = some (.tup xs) → H' b = some (.tup xs)) (frzs : ∀ b o u, H b = some (.frz o u) → H' b = some (.frz o u)) (tbls : ∀ b ps, H b = some (.tbl ps) → ∃ more, H' b = some (.tbl (ps ++ more)))
    (ns : ∀ m, s.heap.Ns X.env.locals m → h'.Ns X.env.locals m) (hok : HOk X.prog X.w H' h') (hg : AllBare g') :
    Inv X pins σ H' { s with heap := h', gens := g', drawn := d', toks := t' } := by
  have neL : ∀ b o, X.s₀.heap.get? b = some o → b ≠ X.env.locals := fun b o e => Nat.ne_of_lt (Nat.lt_of_lt_of_le (Heap.lt_size e) I.ok.above)
  have neC : ∀ b o, X.s₀.heap.get? b = some o → b ∉ X.ex → b ∉ ch := fun b o e hx hb => by
    rcases (hch b hb).1 with z | z
    · exact hx z
    · rw [z] at e; cases e
  have cellK : ∀ x c, X.env.cells.lookup x = some c → ∀ v, s.heap.IsCell c v → h'.IsCell c v := fun x c e v ⟨o, ho, hd⟩ => by
    have nch : c ∉ ch := fun z => (hch c z).2.2.1 x c e rfl
    by_cases hc : c ∈ X.fs
    · obtain ⟨sl, q⟩ := slot c o (I.cne x c e) hc nch ho (I.freeC x c e)
      exact ⟨_, q, hd⟩
    · exact ⟨o, keep c o (I.cne x c e) hc nch ho (I.freeC x c e), hd⟩
  refine ⟨I.ok, I.os, hg, ⟨fun b o e n hb hx => ?_, fun b o e n hb hx => ?_, fun b o e n hx => ?_, fun b o e hx => ?_, fun b xs e => tups b xs (I.base.tups b xs e), fun b o xs e => frzs b o xs (I.base.frzs b o xs e), fun b ps e => ?_⟩, ?_, fun x c e => ?_, ?_, fun x c e => ?_, fun p hp => ?_, hok, I.len⟩
  · exact keep b o (neL b o e) hb (neC b o e hx) (I.base.keep b o e n hb hx) (I.base.free b o e n hx)
  · obtain ⟨sl, e1⟩ := I.base.slot b o e n hb hx
    obtain ⟨sl', e2⟩ := slot b _ (neL b o e) hb (neC b o e hx) e1 (I.base.free b o e n hx)
    exact ⟨sl', e2⟩
  · obtain ⟨o', e1⟩ := I.base.there b o e hx
    exact free b o' (neC b o e hx) e1 (I.base.free b o e n hx)
  · obtain ⟨o', e1⟩ := I.base.there b o e hx
    exact there b o' (neC b o e hx) e1
  · obtain ⟨m1, e1⟩ := I.base.tbls b ps e
    obtain ⟨m2, e2⟩ := tbls b _ e1
    exact ⟨m1 ++ m2, by rw [e2, Array.append_assoc]⟩
  · obtain ⟨m, hn, hl⟩ := I.loc
    refine ⟨m, ns m hn, fun i x v e1 e2 e3 => ?_⟩
    obtain ⟨u, r, l⟩ := hl i x v e1 e2 e3
    refine ⟨u, r, ?_⟩
    rcases l with l | ⟨k, c, e, z⟩
    · exact .inl l
    · exact .inr ⟨k, c, e, cellK x c e _ z⟩
  · obtain ⟨v, z⟩ := I.cell x c e
    exact ⟨v, cellK x c e v z⟩
  · obtain ⟨m, ⟨o, _, _, ho, _⟩, _⟩ := I.loc
    exact free _ o (fun z => (hch _ z).2.1 rfl) ho I.free
  · obtain ⟨v, o, ho, hd⟩ := I.cell x c e
    exact free c o (fun z => (hch c z).2.2.1 x c e rfl) ho (I.freeC x c e)
  · obtain ⟨e, n, ne, nf, d⟩ := I.pin p hp
    have nch : p.1 ∉ ch := fun z => (hch p.1 z).2.2.2 p hp rfl
    exact ⟨keep p.1 p.2 ne nf nch e n, free p.1 p.2 nch e n, ne, nf, d⟩
end
noncomputable def ExcAt (h₀ h : Heap) (H : Hp) (ea : Addr) (C : Value) (d : Option Addr) : Prop :=
  ∃ oe vs T oT ts a0, h.get? ea = some oe ∧ (oe.cls = C ∧ Dx oe d) ∧ vs[0]? = some a0 ∧ oe.data = .fields vs ∧ vs[1]? = some (.ref T) ∧ T ≠ ea ∧ h.get? T = some oT ∧ oT.data = .fields ts ∧ ts[3]? = some .none ∧
    H ea = none ∧ H T = none ∧ h₀.get? ea = none ∧ h₀.get? T = none
noncomputable def CX1 (P : Program) (w : World) : CXT := fun outer H s E e s' =>
  ∃ ea C d H', e = .ref ea ∧ s'.os = s.os ∧ AllBare s'.gens ∧ Un (frs outer) [] H H' s.heap s'.heap ∧ HOk P w H' s'.heap ∧ ExcAt s.heap s'.heap H' ea C d ∧ E C d H'
section
variable {P : Program} {w : World} {K : PySem.W.Frag} {mg : Str → Option Value} {base : Heap} {N : List Str} {qual : Str} {scope : Scope} {f : Addr} {cd : Value} {A : Around} {outer : List Env} {s s1 : Shared} {H H1 : Hp} {E : XK}
  {pins : List (Addr × Obj)} {σ : St} {hid : List Addr} {h' : Heap} {ea : Addr} {C a0 : Value} {d : Option Addr}
theorem left_cx (I : Inv (cxOf (CX1 P w) P w K mg base N qual scope f cd A outer s H E) pins σ H1 s1) (hf : ∀ b ∈ frs (cxOf (CX1 P w) P w K mg base N qual scope f cd A outer s H E).stack, b ∈ hid)
    (hh : ∀ b ∈ hid, b ∈ frs (cxOf (CX1 P w) P w K mg base N qual scope f cd A outer s H E).stack ∨ (s.heap.get? b = none ∧ H1 b = none))
    (st : (PySem.W.hideAll s1.heap hid).StaysIn h') (sm : s1.heap.UpToSlots h') (tr : h'.TracedW (PySem.W.hideAll s1.heap hid) ea C a0) (hea : ea ∈ hid ∨ s1.heap.get? ea = none) (dx : ∀ o, h'.get? ea = some o → Dx o d) (e : E C d H1) :
    CX1 P w outer H s E (.ref ea) { s1 with heap := h' } := by
  have old : ∀ b o, s.heap.get? b = some o → ∃ o', s1.heap.get? b = some o' := fun b o q => I.base.there b o q (fun z => nomatch z)
  have frS := fun b hb => (I.stack.mem (b := b) hb).2
  have keepB : ∀ b o, b ∉ hid → s1.heap.get? b = some o → h'.get? b = some o := fun b o hb q => st b o (PySem.W.hideAll_get hid q hb)
  have trk : ∀ b o, H1 b = some o → b ∉ hid := fun b o q hb => by
    rcases hh b hb with z | ⟨_, z⟩
    · rw [I.stkFree b z] at q; cases q
    · rw [z] at q; cases q
  have fr2 : ∀ b o, s.heap.get? b = some o → b ∈ hid → b ∈ frs outer := fun b o q hb => by
    rcases hh b hb with z | ⟨z, _⟩
    · rcases List.mem_cons.mp (I.stkSub b z) with y | y
      · exact absurd (Nat.lt_of_lt_of_le (Heap.lt_size q) I.ok.above) (by rw [y]; exact Nat.lt_irrefl _)
      · exact y
    · rw [z] at q; cases q
  have inStk : ∀ b, b ∈ frs outer → b ∈ frs (cxOf (CX1 P w) P w K mg base N qual scope f cd A outer s H E).stack := fun b hb => List.mem_cons_of_mem _ hb
  obtain ⟨oe, vs, T, oT, ts, he, ⟨hc, h0⟩, hd, h1, hnT, hne, hT, hdT, h3⟩ := tr
  have gone : ∀ b o', (PySem.W.hideAll s1.heap hid).get? b = none → s1.heap.get? b = some o' → b ∈ hid := fun b o' z q => by
    by_cases hb : b ∈ hid
    · exact hb
    · rw [PySem.W.hideAll_get hid q hb] at z; cases z
  have fields : ∀ b o ws, h'.get? b = some o → o.data = .fields ws → b ∈ frs (cxOf (CX1 P w) P w K mg base N qual scope f cd A outer s H E).stack → False := fun b o ws q d hb => by
    obtain ⟨ob, g1, g2⟩ := frS b hb
    obtain ⟨sl, g3⟩ := sm b ob g1 g2
    rw [q] at g3; cases g3; exact g2 ws d
  have hT0 : s.heap.get? T = none := by
    cases q : s.heap.get? T with
    | none => rfl
    | some o =>
      obtain ⟨o', q'⟩ := old T o q
      exact (fields T oT ts hT hdT (inStk _ (fr2 T o q (gone T o' hnT q')))).elim
  have hT1 : H1 T = none := by
    cases q : H1 T with
    | none => rfl
    | some o =>
      obtain ⟨o', q'⟩ := (I.hok T o q).isThere
      exact absurd (gone T o' hnT q') (trk T o q)
  have he0 : s.heap.get? ea = none := by
    cases q : s.heap.get? ea with
    | none => rfl
    | some o =>
      rcases hea with z | z
      · exact (fields ea oe vs he hd (inStk _ (fr2 ea o q z))).elim
      · obtain ⟨o', q'⟩ := old ea o q
        rw [z] at q'; cases q'
  have he1 : H1 ea = none := by
    cases q : H1 ea with
    | none => rfl
    | some o =>
      rcases hea with z | z
      · exact absurd z (trk ea o q)
      · obtain ⟨o', q'⟩ := (I.hok ea o q).isThere
        rw [z] at q'; cases q'
  refine ⟨ea, C, d, H1, rfl, I.os, I.bare, ⟨fun b o q n hb _ => ?_, fun b o q n hb _ => ?_, fun b o q n _ => ?_, fun b o q _ => ?_, I.base.tups, I.base.frzs, I.base.tbls⟩, fun b o q => ?_,
    ⟨oe, vs, T, oT, ts, a0, he, ⟨hc, dx oe he⟩, h0, hd, h1, hne, hT, hdT, h3, he1, hT1, he0, hT0⟩, e⟩
  · exact keepB b o (fun z => hb (fr2 b o q z)) (I.base.keep b o q n hb (fun z => nomatch z))
  · obtain ⟨sl, q1⟩ := I.base.slot b o q n hb (fun z => nomatch z)
    obtain ⟨ob, g1, g2⟩ := frS b (inStk b hb)
    rw [q1] at g1; cases g1
    obtain ⟨sl', q2⟩ := sm b _ q1 g2
    exact ⟨sl', q2⟩
  · exact I.base.free b o q n (fun z => nomatch z)
  · obtain ⟨o', q1⟩ := old b o q
    by_cases hb : b ∈ hid
    · obtain ⟨ob, g1, g2⟩ := frS b (inStk b (fr2 b o q hb))
      obtain ⟨sl, q2⟩ := sm b ob g1 g2
      exact ⟨_, q2⟩
    · exact ⟨o', keepB b o' hb q1⟩
  · refine (I.hok b o q).stay (fun c u hc q' => keepB c u ?_ q') (fun _ z => z) fun _ _ z => z
    rcases hc with z | z
    · rw [z]; exact trk b o q
    · exact trk c _ z
theorem passes1 : Passes (CX1 P w) (cxOf (CX1 P w) P w K mg base N qual scope f cd A outer s H E) E := by
  intro pins σ H1 s1 e s' I hx
  obtain ⟨ea, C, d, H', rfl, os, bare, un, hok, ⟨oe, vs, T, oT, ts, a0, he, ⟨hc, hx0⟩, h0, hd, h1, hne, hT, hdT, h3, n1, n2, g1, g2⟩, hE⟩ := hx
  have I' : Inv (cxOf (CX1 P w) P w K mg base N qual scope f cd A outer s H E) pins σ H' s' := I.call' (ch := []) os un hok bare (fun _ z => nomatch z)
  have nOld : ∀ b, s1.heap.get? b = none → s.heap.get? b = none := fun b z => by
    cases q : s.heap.get? b with
    | none => rfl
    | some o =>
      obtain ⟨o', q'⟩ := I.base.there b o q (fun z => nomatch z)
      rw [z] at q'; cases q'
  have hfr : ∀ b ∈ frs (cxOf (CX1 P w) P w K mg base N qual scope f cd A outer s H E).stack, b ∈ ea :: T :: frs (cxOf (CX1 P w) P w K mg base N qual scope f cd A outer s H E).stack := fun b hb => .tail _ (.tail _ hb)
  refine wpAny_dkQ kd_leaving (wpAny_leaves_onW (base := PySem.W.hideAll s'.heap (ea :: T :: frs (cxOf (CX1 P w) P w K mg base N qual scope f cd A outer s H E).stack)) (cls := C) (a0 := a0) I'.ok.frames rfl
    ⟨fun b o q => PySem.W.of_hideAll _ q, PySem.W.hideAll_none _ (.head _), PySem.W.funFrames_hide I'.stack (fun env he' b hb => hfr b (List.mem_filterMap.mpr ⟨env, he', hb⟩)),
      ⟨oe, vs, T, oT, ts, he, ⟨hc, h0⟩, hd, h1, PySem.W.hideAll_none _ (.tail _ (.head _)), hne, hT, hdT, h3⟩⟩ fun h' fl sm dk => ?_)
  refine left_cx I' hfr (fun b hb => ?_) fl.1 sm fl.2.2.2 (.inl (.head _)) (fun o e => hx0.dk he e dk) hE
  rcases List.mem_cons.mp hb with rfl | hb
  · exact .inr ⟨nOld _ g1, n1⟩
  · rcases List.mem_cons.mp hb with rfl | hb
    · exact .inr ⟨nOld _ g2, n2⟩
    · exact .inl hb
end
abbrev bmV : List Value := [.type "ValueError", .type "Exception", .type "BaseException", .type "object"]
theorem exc_obj {K : PySem.W.Frag} {h : Heap} {C : Addr} {bmB : List Value} {newId : String} (X : K.In h) (q : PySem.W.excIn K C bmB newId = true) :
    ∃ bm N nm qn bs hdct sn sub ab col dd k0 k1 k2 k3 k5 mN, h.get? C = some (excClassObj nm qn C N bs bm hdct sn sub ab col dd k0 k1 k2 k3 k5 newId) ∧ h.Ns N mN ∧ mN "__init__" = none ∧ OwnTail h bmB bm := by
  unfold PySem.W.excIn at q
  split at q
  next dd cd sl ho =>
    split at q
    next C' bm k0 k1 k2 k3 n k5 hm hs =>
      simp only [Bool.and_eq_true, beq_iff_eq, Bool.not_eq_true'] at q
      obtain ⟨⟨⟨⟨⟨e1, e2⟩, hdel⟩, ht⟩, hok⟩, hni⟩ := q
      subst e1; subst e2
      obtain ⟨nm, bs, mro, ns, qn, hd, sn, sub, ab, col, del⟩ := cd
      dsimp only at hm hdel hok hni
      subst hm hdel
      obtain rfl : sl = #[k0, k1, k2, k3, some (.builtin n), k5] := by
        cases sl with
        | mk l => exact congrArg Array.mk hs
      have hns : h.Ns ns (h.nsMap ns) := .of_isNs (PySem.W.isNs_of_in X hok)
      exact ⟨bm, ns, nm, qn, bs, hd, sn, sub, ab, col, dd, k0, k1, k2, k3, k5, _, X _ _ ho, hns, PySem.W.nsMap_none_of_in X hok hni, PySem.W.tail_of_in X ht⟩
    next => cases q
  next => cases q
section
variable {P : Program} {w : World} {K : PySem.W.Frag} {mg : Str → Option Value} {base : Heap} {N : List Str} {qual : Str} {scope : Scope} {f : Addr} {cd : Value} {A : Around} {outer : List Env} {s : Shared} {H : Hp} {E : XK}
theorem ps_raise {x : Str} {np cpos pos : Pos} {e₀ : Expr} {rest : List Expr} {t : TA} {C : Addr} (hq : PySem.W.excIn K C bmV "ValueError.__new__" = true) (hm : mg x = some (.ref C))
    (ha : PA (cxOf (CX1 P w) P w K mg base N qual scope f cd A outer s H E) (e₀ :: rest) t)
    (hg : Gl (cxOf (CX1 P w) P w K mg base N qual scope f cd A outer s H E) x := by rfl) (hdb : (x == ("__debug__" : Str)) = false := by decide)
    (he : starEach (e₀ :: rest) (cxOf (CX1 P w) P w K mg base N qual scope f cd A outer s H E).env = (false, eval e₀ (cxOf (CX1 P w) P w K mg base N qual scope f cd A outer s H E).env) :: starEach rest (cxOf (CX1 P w) P w K mg base N qual scope f cd A outer s H E).env := by rfl)
    (hpl : (backTo cpos (starEach rest (cxOf (CX1 P w) P w K mg base N qual scope f cd A outer s H E).env)).any (·.1) = false := by rfl) :
    PS (cxOf (CX1 P w) P w K mg base N qual scope f cd A outer s H E) (.Raise (some (.Call (.Name x np) (e₀ :: rest) [] cpos)) none pos) (fun _ σ H0 => t σ H0 fun vs H1 => vs.length ≤ sizeLine ∧ E (.ref C) none H1) := by
  intro pins s1 σ H0 D I h
  obtain ⟨tl, N', nm, q, bs, hdct, sn, sub, ab, col, dd, k0, k1, k2, k3, k5, mN, hC, hN, hni, T⟩ := exc_obj I.ok.mod.kin hq
  refine wpAny_Raise_call_subT (C := C) (nm := nm) (q := q) (N := N') (bs := bs) (bm := tl) (hdct := hdct) (sn := sn) (sub := sub) (ab := ab) (col := col) (dd := dd) (k0 := k0) (k1 := k1) (k2 := k2) (k3 := k3) (k5 := k5)
    PySem.F.excBase_ValueError (mN := mN) (T.hasType PySem.F.excBase_ValueError.hasBase) (I.ok.hd rfl) (by rw [he]; show (false || (backTo cpos (starEach rest _)).any (·.1)) = false; rw [hpl]; rfl) hni (ld_glob I hg hm ⟨rfl, ?_⟩ hdb)
  have hs := ha cpos pins s1 σ H0 _ I h
  rw [he] at hs ⊢
  refine Calls.evalArgs_plain (wpAny_mono hs (fun us s2 h2 => ?_) fun _ _ y => y)
  obtain ⟨vs, H2, I2, r, z, hE⟩ := h2
  refine ⟨rfl, by rw [← r.length]; exact z, I2.bk _ _ hC, hN.keeps I2.bk, T.keeps I2.bk, fun h' e hm' => ?_⟩
  have hin : ∀ env ∈ (cxOf (CX1 P w) P w K mg base N qual scope f cd A outer s H E).stack, ∀ b, env.frame = some b → b ∈ frs (cxOf (CX1 P w) P w K mg base N qual scope f cd A outer s H E).stack := fun env he b hb => List.mem_filterMap.mpr ⟨env, he, hb⟩
  obtain ⟨t0, he0, _, _⟩ := id hm'.there
  exact wpAny_dkQ kd_leaving (wpAny_leaves_madeW (base := PySem.W.hideAll s2.heap (frs (cxOf (CX1 P w) P w K mg base N qual scope f cd A outer s H E).stack)) (h := s2.heap) I2.ok.frames rfl (fun b o q => PySem.W.of_hideAll _ q) (PySem.W.funFrames_hide I2.stack hin) hm'
    fun h'' t' fl _ _ sm dk => (left_cx (s1 := s2) (h' := h'') I2 (fun b hb => hb) (fun b hb => .inl hb) fl.1 ((Heap.UpToSlots.of_keeps hm'.keeps).trans sm) fl.2.2.2 (.inr hm'.new) (fun o eo => Dx.none ((congrArg Prod.snd (dk.get he0 eo)).trans rfl)) hE : CX1 P w outer H s E (.ref e) { s2 with heap := h'' }))
end
end L2
set_option Elab.async false
set_option linter.all false
set_option maxRecDepth 100000
set_option maxHeartbeats 2000000
namespace L2
open PySem PySem.Spec PyProof.Rows
noncomputable def Fly (X : Cx) (pins : List (Addr × Obj)) (H : Hp) (ea : Addr) (C : Value) (d : Option Addr) (h : Heap) : Prop :=
  ∃ oe vs T oT ts a0, h.get? ea = some oe ∧ (oe.cls = C ∧ Dx oe d) ∧ vs[0]? = some a0 ∧ oe.data = .fields vs ∧ vs[1]? = some (.ref T) ∧ T ≠ ea ∧ h.get? T = some oT ∧ oT.data = .fields ts ∧ ts[3]? = some .none ∧
    H ea = none ∧ H T = none ∧ ∀ b, b = ea ∨ b = T → X.s₀.heap.get? b = none ∧ b ≠ X.env.locals ∧ (∀ x c, X.env.cells.lookup x = some c → c ≠ b) ∧ ∀ p ∈ X.pn ++ pins, p.1 ≠ b
noncomputable abbrev XS := St → Value → Option Addr → Hp → Prop
noncomputable def XP (X : Cx) (pins : List (Addr × Obj)) (E : XS) (e : Value) (s' : Shared) : Prop := ∃ σ ea C d H', e = .ref ea ∧ Inv X pins σ H' s' ∧ Fly X pins H' ea C d s'.heap ∧ E σ C d H'
noncomputable abbrev TEx := St → Hp → VK → XK → Prop
noncomputable abbrev TSx := Ends → XS → St → Hp → Prop
noncomputable def PEx (X : Cx) (e : Expr) (t : TEx) : Prop :=
  ∀ (pins : List (Addr × Obj)) (s : Shared) (σ : St) (H : Hp) (Q : VK) (E : XS), Inv X pins σ H s → t σ H Q (fun C d H' => E σ C d H') → wpAny (model X.prog X.w) X.A (eval e X.env) (EP X pins σ Q) (XP X pins E) s
noncomputable def PSx (X : Cx) (st : Stmt) (t : TSx) : Prop :=
  ∀ (pins : List (Addr × Obj)) (s : Shared) (σ : St) (H : Hp) (D : Ends) (E : XS), Inv X pins σ H s → t D E σ H → wpAny (model X.prog X.w) X.A (exec st X.env) (SP X pins D) (XP X pins E) s
noncomputable def PSxs (X : Cx) (st : List Stmt) (t : TSx) : Prop :=
  ∀ (pins : List (Addr × Obj)) (s : Shared) (σ : St) (H : Hp) (D : Ends) (E : XS), Inv X pins σ H s → t D E σ H → wpAny (model X.prog X.w) X.A (execs st X.env) (SP X pins D) (XP X pins E) s
structure Own (X : Cx) : Prop where
  ex : X.ex = []
  stk : X.stack = X.env :: X.outer
  fr : X.env.frame = some X.env.locals
  calm : X.calm = true
section
variable {X : Cx} {pins : List (Addr × Obj)} {σ : St} {H : Hp} {s s' : Shared} {E : XK} {e : Value}
theorem Inv.unlike (O : Own X) (I : Inv X pins σ H s) {b : Addr} (z : s.heap.get? b = none) :
    X.s₀.heap.get? b = none ∧ b ≠ X.env.locals ∧ (∀ x c, X.env.cells.lookup x = some c → c ≠ b) ∧ ∀ p ∈ X.pn ++ pins, p.1 ≠ b := by
  refine ⟨?_, ?_, fun x c e y => ?_, fun p hp y => ?_⟩
  · cases q : X.s₀.heap.get? b with
    | none => rfl
    | some o =>
      obtain ⟨o', q'⟩ := I.base.there b o q (by rw [O.ex]; exact fun z => nomatch z)
      rw [z] at q'; cases q'
  · obtain ⟨m, ⟨o, _, _, ho, _⟩, _⟩ := I.loc
    rintro rfl
    rw [z] at ho; cases ho
  · obtain ⟨v, o, ho, _⟩ := I.cell x c e
    rw [y, z] at ho; cases ho
  · have := (I.pin p hp).1
    rw [y, z] at this; cases this
theorem fly_of (O : Own X) (I : Inv X pins σ H s) (hx : CX1 X.prog X.w X.stack H s E e s') : ∃ ea C d H', e = .ref ea ∧ Inv X pins σ H' s' ∧ Fly X pins H' ea C d s'.heap ∧ E C d H' := by
  obtain ⟨ea, C, d, H', rfl, os, bare, un, hok, ⟨oe, vs, T, oT, ts, a0, he, hc, h0, hd, h1, hne, hT, hdT, h3, n1, n2, g1, g2⟩, hE⟩ := hx
  refine ⟨ea, C, d, H', rfl, I.call' (ch := []) os un hok bare (fun _ z => nomatch z), ⟨oe, vs, T, oT, ts, a0, he, hc, h0, hd, h1, hne, hT, hdT, h3, n1, n2, fun b hb => ?_⟩, hE⟩
  rcases hb with rfl | rfl
  · exact I.unlike O g1
  · exact I.unlike O g2
theorem fly_on (O : Own X) (I : Inv X pins σ H s) {oe : Obj} {vs ts : Array Value} {T ea : Addr} {oT : Obj} {a0 C : Value} {h' : Heap}
    {d : Option Addr} (n1 : H ea = none) (n2 : H T = none) (hb : ∀ b, b = ea ∨ b = T → X.s₀.heap.get? b = none ∧ b ≠ X.env.locals ∧ (∀ x c, X.env.cells.lookup x = some c → c ≠ b) ∧ ∀ p ∈ X.pn ++ pins, p.1 ≠ b)
    (st : (PySem.W.hideAll s.heap (ea :: T :: frs X.stack)).StaysIn h') (sm : s.heap.UpToSlots h') (tr : h'.TracedW (PySem.W.hideAll s.heap (ea :: T :: frs X.stack)) ea C a0) (dx : ∀ o, h'.get? ea = some o → Dx o d) :
    Inv X pins σ H { s with heap := h' } ∧ Fly X pins H ea C d h' := by
  have frS := fun b hb => (I.stack.mem (b := b) hb).2
  have keepB : ∀ b o, b ∉ ea :: T :: frs X.stack → s.heap.get? b = some o → h'.get? b = some o := fun b o hb q => st b o (PySem.W.hideAll_get _ q hb)
  have trk : ∀ b o, H b = some o → b ∉ ea :: T :: frs X.stack := fun b o q hb => by
    rcases List.mem_cons.mp hb with rfl | hb
    · rw [n1] at q; cases q
    · rcases List.mem_cons.mp hb with rfl | hb
      · rw [n2] at q; cases q
      · rw [I.stkFree b hb] at q; cases q
  have nh : ∀ b, b ≠ X.env.locals → b ∉ X.fs → b ∉ [ea, T] → b ∉ ea :: T :: frs X.stack := fun b h1 h2 h3 hb => by
    rcases List.mem_cons.mp hb with rfl | hb
    · exact h3 (.head _)
    · rcases List.mem_cons.mp hb with rfl | hb
      · exact h3 (.tail _ (.head _))
      · rcases List.mem_cons.mp (I.stkSub b hb) with y | y
        · exact h1 y
        · exact h2 y
  have fsS : ∀ b, b ∈ X.fs → b ∈ frs X.stack := fun b hb => by
    rw [O.stk]; unfold frs; rw [List.filterMap_cons, O.fr]; exact .tail _ hb
  refine ⟨I.step2 (g' := s.gens) (d' := s.drawn) (t' := s.toks) (ch := [ea, T]) (fun b hc => ?_) (fun b o h1 h2 h3 q _ => keepB b o (nh b h1 h2 h3) q) (fun b o _ h2 _ q _ => ?_) (fun _ _ _ _ n => n) (fun b o h3 q => ?_)
    (fun _ _ z => z) (fun _ _ _ z => z) (fun b ps z => ⟨#[], by rw [z]; simp⟩) (fun m hm => sm.ns hm) (fun b o q => ?_) I.bare, ?_⟩
  · have hc' : b = ea ∨ b = T := by simpa using hc
    obtain ⟨y1, y2, y3, y4⟩ := hb b hc'
    exact ⟨.inr y1, y2, y3, y4⟩
  · obtain ⟨ob, g1, g2⟩ := frS b (fsS b h2)
    rw [q] at g1; cases g1
    exact sm b o q g2
  · by_cases hh : b ∈ ea :: T :: frs X.stack
    · rcases List.mem_cons.mp hh with rfl | hh
      · exact absurd (.head _) h3
      · rcases List.mem_cons.mp hh with rfl | hh
        · exact absurd (.tail _ (.head _)) h3
        · obtain ⟨ob, g1, g2⟩ := frS b hh
          obtain ⟨sl, q2⟩ := sm b ob g1 g2
          exact ⟨_, q2⟩
    · exact ⟨o, keepB b o hh q⟩
  · refine (I.hok b o q).stay (fun c u hc q' => keepB c u ?_ q') (fun _ z => z) fun _ _ z => z
    rcases hc with z | z
    · rw [z]; exact trk b o q
    · exact trk c _ z
  · obtain ⟨oe, vs, T', oT, ts, he, ⟨hc, h0⟩, hd, h1, hnT, hne, hT, hdT, h3⟩ := tr
    have gone : ∀ o', s.heap.get? T' = some o' → T' = T := fun o' q => by
      by_cases hh : T' ∈ ea :: T :: frs X.stack
      · rcases List.mem_cons.mp hh with y | hh
        · exact absurd y hne
        · rcases List.mem_cons.mp hh with y | hh
          · exact y
          · obtain ⟨ob, g1, g2⟩ := frS T' hh
            obtain ⟨sl, g3⟩ := sm T' ob g1 g2
            rw [hT] at g3; cases g3
            exact absurd hdT (g2 ts)
      · rw [PySem.W.hideAll_get _ q hh] at hnT; cases hnT
    have hT1 : H T' = none := by
      cases q : H T' with
      | none => rfl
      | some o =>
        obtain ⟨o', q'⟩ := (I.hok T' o q).isThere
        rw [gone o' q', n2] at q; cases q
    refine ⟨oe, vs, T', oT, ts, a0, he, ⟨hc, dx oe he⟩, h0, hd, h1, hne, hT, hdT, h3, n1, hT1, fun b hb' => ?_⟩
    rcases hb' with rfl | rfl
    · exact hb b (.inl rfl)
    · cases q : s.heap.get? b with
      | none => exact I.unlike O q
      | some o' => exact hb b (.inr (gone o' q))
theorem look_fly {Q : Unit → Shared → Prop} {E' : Value → Shared → Prop} {ea : Addr} {C : Value} {d : Option Addr} (O : Own X) (I : Inv X pins σ H s) (f : Fly X pins H ea C d s.heap)
    (h : ∀ h', Inv X pins σ H { s with heap := h' } → Fly X pins H ea C d h' → Q () { s with heap := h' }) :
    wpAny (model X.prog X.w) X.A (noteFrame (.ref ea) X.env) (fun _ s₂ => wpAny (model X.prog X.w) X.A (setFlight (.ref ea) none) Q E' s₂) E' s := by
  obtain ⟨oe, vs, T, oT, ts, a0, he, ⟨hc, hx0⟩, h0, hd, h1, hne, hT, hdT, h3, n1, n2, hb⟩ := f
  have hin : ∀ env ∈ X.stack, ∀ b, env.frame = some b → b ∈ ea :: T :: frs X.stack := fun env he' b hb' => .tail _ (.tail _ (List.mem_filterMap.mpr ⟨env, he', hb'⟩))
  have hfl : Heap.FlyingW (PySem.W.hideAll s.heap (ea :: T :: frs X.stack)) (X.env :: X.outer) ea C a0 s.heap := by
    rw [← O.stk]
    exact ⟨fun b o q => PySem.W.of_hideAll _ q, PySem.W.hideAll_none _ (.head _), PySem.W.funFrames_hide I.stack hin,
      ⟨oe, vs, T, oT, ts, he, ⟨hc, h0⟩, hd, h1, PySem.W.hideAll_none _ (.tail _ (.head _)), hne, hT, hdT, h3⟩⟩
  refine wpAny_dkQ kd_noteFrame (wpAny_looks_onW (by rw [← O.stk]; exact I.ok.frames) O.fr hfl fun h₄ hheld sm₄ dk1 => ?_)
  refine wpAny_dkQ kd_setFlight (wpAny_landsW hheld fun h₅ fl₅ sm₅ dk2 => ?_)
  obtain ⟨I₅, f₅⟩ := fly_on (oe := oe) (vs := vs) (ts := ts) (oT := oT) O I n1 n2 hb fl₅.1 (sm₄.trans sm₅) fl₅.2.2.2 (fun o e => hx0.dk he e (dk1.trans dk2))
  exact h h₅ I₅ f₅
theorem land_fly {Q : Unit → Shared → Prop} {A' : Around} {E' : Value → Shared → Prop} {ea : Addr} {C : Value} {d : Option Addr} (O : Own X) (I : Inv X pins σ H s) (f : Fly X pins H ea C d s.heap)
    (h : ∀ h', Inv X pins σ H { s with heap := h' } → Fly X pins H ea C d h' → Q () { s with heap := h' }) :
    wpAny (model X.prog X.w) A' (setFlight (.ref ea) none) Q E' s := by
  obtain ⟨oe, vs, T, oT, ts, a0, he, ⟨hc, hx0⟩, h0, hd, h1, hne, hT, hdT, h3, n1, n2, hb⟩ := f
  have hin : ∀ env ∈ X.stack, ∀ b, env.frame = some b → b ∈ ea :: T :: frs X.stack := fun env he' b hb' => .tail _ (.tail _ (List.mem_filterMap.mpr ⟨env, he', hb'⟩))
  have hfl : Heap.FlyingW (PySem.W.hideAll s.heap (ea :: T :: frs X.stack)) X.stack ea C a0 s.heap :=
    ⟨fun b o q => PySem.W.of_hideAll _ q, PySem.W.hideAll_none _ (.head _), PySem.W.funFrames_hide I.stack hin,
      ⟨oe, vs, T, oT, ts, he, ⟨hc, h0⟩, hd, h1, PySem.W.hideAll_none _ (.tail _ (.head _)), hne, hT, hdT, h3⟩⟩
  refine wpAny_dkQ kd_setFlight (lands_againW hfl fun h₅ fl₅ sm₅ dk2 => ?_)
  obtain ⟨I₅, f₅⟩ := fly_on (oe := oe) (vs := vs) (ts := ts) (oT := oT) O I n1 n2 hb fl₅.1 sm₅ fl₅.2.2.2 (fun o e => hx0.dk he e dk2)
  exact h h₅ I₅ f₅
end
noncomputable abbrev Cx.mark (X : Cx) (ea : Addr) : Cx := { X with A := X.A.mark (some (.ref ea)), calm := false }
section
variable {X : Cx} {pins : List (Addr × Obj)} {σ : St} {H : Hp} {s : Shared} {ea : Addr}
theorem Inv.mark (I : Inv X pins σ H s) (ea : Addr) : Inv (X.mark ea) pins σ H s :=
  ⟨⟨I.ok.mod, I.ok.kind, I.ok.glob, I.ok.blt, I.ok.above, I.ok.inj, I.ok.has, I.ok.cab, (fun z => nomatch z), I.ok.frames, I.ok.stk, I.ok.exf, I.ok.bs, I.ok.bsz, I.ok.noex, I.ok.exfs, I.ok.funs, I.ok.frf⟩,
    I.os, I.bare, I.base, I.loc, I.cell, I.free, I.freeC, I.pin, I.hok, I.len⟩
theorem Inv.unmark (ok : X.Ok) (I : Inv (X.mark ea) pins σ H s) : Inv X pins σ H s := ⟨ok, I.os, I.bare, I.base, I.loc, I.cell, I.free, I.freeC, I.pin, I.hok, I.len⟩
theorem SP.unmark {D : Ends} {f : Flow} (ok : X.Ok) (h : SP (X.mark ea) pins D f s) : SP X pins D f s := by
  cases f with
  | next => obtain ⟨σ', H', I', q⟩ := h; exact ⟨σ', H', I'.unmark ok, q⟩
  | brk => obtain ⟨σ', H', I', q⟩ := h; exact ⟨σ', H', I'.unmark ok, q⟩
  | cont => obtain ⟨σ', H', I', q⟩ := h; exact ⟨σ', H', I'.unmark ok, q⟩
  | ret u => obtain ⟨v, σ', H', I', r, q⟩ := h; exact ⟨v, σ', H', I'.unmark ok, r, q⟩
end
noncomputable abbrev TH := Value → Option Addr → TS
noncomputable def PH (X : Cx) (hs : List ExceptHandler) (t : TH) : Prop :=
  ∀ (pins : List (Addr × Obj)) (s : Shared) (σ : St) (H : Hp) (D : Ends) (ea : Addr) (C : Value) (d : Option Addr), Inv X pins σ H s → Fly X pins H ea C d s.heap → t C d D σ H → wpAny (model X.prog X.w) X.A (handleBy (.ref ea) X.env hs) (SP X pins D) X.xe s
noncomputable def hNil : TH := fun _ _ _ _ _ => False
section
variable {X : Cx}
theorem ph_nil : PH X [] hNil := fun _ _ _ _ _ _ _ _ _ _ h => h.elim
theorem psxs_one {st : Stmt} {t : TSx} (h1 : PSx X st t) : PSxs X [st] t := by
  intro pins s σ H D E I h
  refine wpAny_execs_cons (wpAny_mono (h1 pins s σ H D E I h) (fun f s1 q => ?_) fun _ _ z => z)
  cases f with
  | next => exact wpAny_execs_nil q
  | ret v => exact q
  | brk => exact q
  | cont => exact q
noncomputable def xSet (i : Nat) (te : TEx) : TSx := fun D E σ H => te σ H (fun v H1 => D.nx (σ.set i (some v)) H1) fun C d H1 => E σ C d H1
theorem psx_set {i : Nat} {x : Str} {e : Expr} {te : TEx} {pos pos' : Pos} (hN : X.N.Nodup) (hi : X.N[i]? = some x) (hx : Loc X.env.scope x) (he : PEx X e te) (hs : swapsWith e (some (.Name x pos')) pos.line X.env = pure false := by rfl)
    (hf : X.fn x = true ∨ X.env.scope.names.lookup x = some .local := by first | exact .inl rfl | exact .inr rfl | assumption) : PSx X (.Assign [.Name x pos'] e pos) (xSet i te) := by
  intro pins s σ H D E I h
  refine wpAny_Assign_Name (wpAny_mono (he pins s σ H _ E I h) (fun v s1 q => ?_) fun _ _ z => z) hs
  obtain ⟨y, H1, I1, r1, q1⟩ := q
  exact store_ok I1 hN hi hx r1 (fun s2 I2 => ⟨_, H1, I2, q1⟩) hf
noncomputable def xDrop (te : TEx) : TSx := fun D E σ H => te σ H (fun _ H1 => D.nx σ H1) fun C d H1 => E σ C d H1
theorem psx_expr {e : Expr} {te : TEx} {pos : Pos} (he : PEx X e te) (hs : swapsWith e none pos.line X.env = pure false := by rfl) : PSx X (.Expr e pos) (xDrop te) := by
  intro pins s σ H D E I h
  exact wpAny_Expr_any (wpAny_mono (he pins s σ H _ E I h) (fun v s1 ⟨x, H1, I1, r1, q1⟩ => ⟨σ, H1, I1, q1⟩) fun _ _ z => z) I.quiet hs
noncomputable def xIf (tc : TT) (t u : TSx) : TSx := fun D E σ H => tc σ H fun b H1 => if b = true then t D E σ H1 else u D E σ H1
noncomputable def tTry (tb : TSx) (th : TH) : TS := fun D σ H => tb D (fun σ' C d H' => th C d D σ' H') σ H
theorem ps_try {body : List Stmt} {h₀ : ExceptHandler} {hs : List ExceptHandler} {tb : TSx} {th : TH} {pos : Pos} (O : Own X) (hb : PSxs X body tb) (hh : PH X (h₀ :: hs) th) : PS X (.Try body (h₀ :: hs) [] [] pos) (tTry tb th) := by
  intro pins s σ H D I h
  refine wpAny_Try_except (wpAny_mono (hb pins s σ H D _ I h) (fun f s1 q => ?_) fun e s1 q => ?_)
  · cases f with
    | next => exact wpAny_execs_nil q
    | ret v => exact q
    | brk => exact q
    | cont => exact q
  · obtain ⟨σ', ea, C, d, H', rfl, I', f, q⟩ := q
    exact look_fly O I' f fun h' I'' f'' => hh pins _ σ' H' D ea C d I'' f'' q
theorem pex_call {k : Nat} {f : Addr} {fd : FuncData} {ps : List Str} {sp : Sp} {dvs : List V} {ds : List Value} {x : Str} {p pos : Pos} {e : Expr} {es : List Expr} {t : TA} (O : Own X) (F : FnOk X.prog X.w X.K X.mg X.base (CX1 X.prog X.w) k f fd ps sp) (hr : Room k X.A) (hg : Gl X x) (hm : X.mg x = some (.ref f)) (hk : PySem.W.keepIn X.K (.ref f) = true) (hb : Binds X.K fd ps ds) (hd : Vals dvs ds)
    (ha : PA X.nox (e :: es) t) (hdb : (x == ("__debug__" : Str)) = false := by decide) (he : starEach (e :: es) X.env = (false, eval e X.env) :: starEach es X.env := by rfl) (hpl : (backTo pos (starEach es X.env)).any (·.1) = false := by rfl) :
    PEx X (.Call (.Name x p) (e :: es) [] pos) (fun σ H Q E => t σ H fun vs H1 => sp (vs ++ dvs) H1 Q E) := by
  intro pins s σ H Q E I h
  refine wpAny_Call_Name_kw (ld_glob I hg hm ?_ hdb)
  refine PySem.W.callWith_K (h₀ := X.base) I.ok.mod.kin hk (wpAny_mono (ha pos pins s σ H _ (I.wish _) h) (fun us s1 q => ?_) fun _ _ z => z.elim) he hpl
  obtain ⟨vs, H1, I1, r, q⟩ := q
  have I1 := I1.unwish
  have r2 : Vals (vs ++ dvs) (us ++ ds) := r.append hd
  have hl : (us ++ ds).length = ps.length := by rw [← r2.length]; exact F.len _ _ _ _ q
  refine ⟨I1.kIn, wpAny_call (codeAny_mono (F.run X.A X.stack s1 H1 ⟨us, []⟩ (us ++ ds) (vs ++ dvs) Q _ hr I1.env0 (hb s1 us I1.kIn hl) r2 q) fun r s' hq => ?_)⟩
  cases r with
  | error e =>
    have hq' : CX1 X.prog X.w X.stack H1 s1 (fun C d H' => E σ C d H') e s' := hq
    obtain ⟨ea, C, d, H', e1, I', f', q'⟩ := fly_of O I1 hq'
    exact ⟨σ, ea, C, d, H', e1, I', f', q'⟩
  | ok fl =>
    cases fl with
    | ret u => exact I1.after hq
    | next => exact False.elim hq
    | brk => exact False.elim hq
    | cont => exact False.elim hq
end
section
variable {P : Program} {w : World} {K : PySem.W.Frag} {mg : Str → Option Value} {base : Heap}
theorem Fun.okX {x qual : Str} {st : Stmt} {f : Addr} {fd : FuncData} {N ps : List Str} {k : Nat} {sp : Sp} (F : Fun K x qual st f fd) (S : FnScope N ps (defScope st)) (len : ∀ vs H Q E, sp vs H Q E → vs.length = ps.length)
    (hbody : ∀ (cdv : Value) (A : Around) (outer : List Env) (s : Shared) (H : Hp) (vs : List V) (Q : VK) (E : XK), Room k (A.deeper (envOfC qual (defScope st) s.heap.objs.size f cdv)) → sp vs H Q E →
      ∃ t, PSs (cxOf (CX1 P w) P w K mg base N qual (defScope st) f cdv A outer s H E) (defBody st) t ∧ t { nx := fun _ H' => Q .non H', rt := Q } (start N vs) H) : FnOk P w K mg base (CX1 P w) (k + 1) f fd ps sp := by
  obtain ⟨oc, od, kV, doc, pm, an, cdv, ct, osl, rfl, lk, hcd⟩ := F.ex
  exact fn_of lk hcd S len fun A outer s H vs Q E hr hsp => hbody cdv A outer s H vs Q E hr hsp
theorem own_cx {N : List Str} {qual : Str} {scope : Scope} {f : Addr} {cd : Value} {A : Around} {outer : List Env} {s : Shared} {H : Hp} {E : XK} : Own (cxOf (CX1 P w) P w K mg base N qual scope f cd A outer s H E) := ⟨rfl, rfl, rfl, rfl⟩
theorem own_pass {N : List Str} {qual : Str} {scope : Scope} {f : Addr} {cd : Value} {A : Around} {outer : List Env} {s : Shared} {H : Hp} {E : XK} :
    PassesOwn (model P w) (cxOf (CX1 P w) P w K mg base N qual scope f cd A outer s H E).A (cxOf (CX1 P w) P w K mg base N qual scope f cd A outer s H E).env (cxOf (CX1 P w) P w K mg base N qual scope f cd A outer s H E).xe := PassesOwn.leaving
end
end L2
set_option Elab.async false
set_option linter.all false
set_option maxRecDepth 100000
set_option maxHeartbeats 2000000
namespace L2
open PySem PySem.Spec PyProof.Rows
noncomputable def clIn (env : Env) : List (Str × NameKind) → List (Str × Addr) → List (Str × Addr)
  | [], cs => cs
  | (n, k) :: r, cs => if k == .free then (match env.cells.lookup n with | some a => clIn env r ((n, a) :: cs) | none => clIn env r cs) else clIn env r cs
noncomputable abbrev clOf (scope : Scope) (env : Env) : List (Str × Addr) := clIn env scope.names []
theorem clIn_mem {env : Env} : ∀ {ns : List (Str × NameKind)} {cs : List (Str × Addr)}, (∀ n a, (n, a) ∈ cs → env.cells.lookup n = some a) → ∀ n a, (n, a) ∈ clIn env ns cs → env.cells.lookup n = some a
  | [], _, h => h
  | (m, k) :: r, cs, h => by
    unfold clIn
    split
    · split
      · rename_i a e
        exact clIn_mem fun n b hb => by
          rcases List.mem_cons.mp hb with z | z
          · cases z; exact e
          · exact h n b z
      · exact clIn_mem h
    · exact clIn_mem h
theorem clIn_sub {env : Env} : ∀ {ns : List (Str × NameKind)} {cs : List (Str × Addr)} {p : Str × Addr}, p ∈ cs → p ∈ clIn env ns cs
  | [], _, _, h => h
  | (m, k) :: r, cs, p, h => by
    unfold clIn
    split
    · split
      · exact clIn_sub (.tail _ h)
      · exact clIn_sub h
    · exact clIn_sub h
theorem clIn_has {env : Env} {n : Str} {a : Addr} (e : env.cells.lookup n = some a) : ∀ {ns : List (Str × NameKind)} {cs : List (Str × Addr)}, (n, NameKind.free) ∈ ns → (n, a) ∈ clIn env ns cs
  | (m, k) :: r, cs, h => by
    unfold clIn
    rcases List.mem_cons.mp h with z | z
    · cases z
      rw [if_pos (by rfl), e]
      exact clIn_sub (.head _)
    · split
      · split
        · exact clIn_has e z
        · exact clIn_has e z
      · exact clIn_has e z
theorem look_of_mem {α : Type} {n : Str} : ∀ {l : List (Str × α)} {a : α}, (n, a) ∈ l → ∃ b, l.lookup n = some b
  | (m, c) :: r, a, h => by
    cases e : (n == m) with
    | true => exact ⟨c, by rw [List.lookup_cons, e]⟩
    | false =>
      rcases List.mem_cons.mp h with z | z
      · cases z
        rw [beq_self_eq_true] at e; cases e
      · obtain ⟨b, hb⟩ := look_of_mem z
        exact ⟨b, by rw [List.lookup_cons, e]; exact hb⟩
theorem cl_look {scope : Scope} {env : Env} {n : Str} {c : Addr} (h : (clOf scope env).lookup n = some c) : env.cells.lookup n = some c :=
  clIn_mem (cs := []) (by intro _ _ z; cases z) n c (PySem.mem_of_lookup h)
theorem closure_eq {scope : Scope} {env : Env} (h : ∀ y ∈ scope.names, y.2 = .free → ∃ c, env.cells.lookup y.1 = some c) : closureFor scope env = pure (clOf scope env) := by
  have all : ∀ (ns : List (Str × NameKind)) (cs : List (Str × Addr)), (∀ y ∈ ns, y.2 = .free → ∃ c, env.cells.lookup y.1 = some c) →
      (forIn ns cs fun (x : Str × NameKind) (r : List (Str × Addr)) => (match x with | (name, kind) => if (kind == NameKind.free) = true then (do let c ← cellOf env name; pure (ForInStep.yield ((name, c) :: r))) else pure (ForInStep.yield r) : Sem (ForInStep (List (Str × Addr))))) = pure (clIn env ns cs) := by
    intro ns
    induction ns with
    | nil => intro cs _; rfl
    | cons y r ih =>
      intro cs h
      obtain ⟨n, k⟩ := y
      rw [List.forIn_cons]
      have hr : ∀ y ∈ r, y.2 = .free → ∃ c, env.cells.lookup y.1 = some c := fun y hy => h y (.tail _ hy)
      by_cases hk : (k == NameKind.free) = true
      · obtain ⟨c, hc⟩ := h (n, k) (.head _) (beq_iff_eq.mp hk)
        have hc' : env.cells.lookup n = some c := hc
        have e1 : cellOf env n = pure c := by unfold cellOf; rw [hc']
        simp only [hk, if_true, e1, pure_bind]
        rw [ih _ hr]
        conv => rhs; unfold clIn
        rw [if_pos hk, hc']
      · simp only [hk, if_false, pure_bind, Bool.false_eq_true]
        rw [ih _ hr]
        conv => rhs; unfold clIn
        rw [if_neg hk]
  have := all scope.names [] h
  unfold closureFor
  first
    | exact this
    | (simp only [bind_pure]; exact this)
    | simpa using this
noncomputable def Cx.comp (X : Cx) (scope : Scope) (C : Addr) (N' : List Str) (s : Shared) (H : Hp) (fp : List Addr) : Cx where
  prog := X.prog
  w := X.w
  K := X.K
  mg := X.mg
  base := X.base
  A := X.A
  N := N'
  s₀ := s
  H₀ := H
  env := compEnvC scope (clOf scope X.env) C X.env
  outer := X.stack
  stack := X.stack
  ex := fp
  fn := fun _ => false
  calm := X.calm
  pn := []
  xe := fun _ _ => False
noncomputable def seen (lv : Nat) (caps : List Nat) (σ : St) : St := List.replicate lv none ++ caps.map fun j => (σ[j]?).join
noncomputable def compW (J : It) (g : TG) (te : TE) (σ0 : St) (Q : VK) (H1 : Hp) : Prop := ∀ D, H1 D = none → ∃ W : Nat → Nat → List V → Hp → Prop, (∃ m, W 0 m [] (upd H1 D (.lst []))) ∧
  ∀ i m ys H, W i m ys H → H D = some (.lst ys) ∧ ys.length < sizeLine ∧ ((J.stop i H ∧ Q (.ref D) H) ∨ (J.go i H ∧ ∀ x H', J.yld i H x H' → g x σ0 H' fun σ2 H2 => te σ2 H2 fun v H3 => H3 D = some (.lst ys) ∧
    ∃ m', m' < m ∧ W (i + 1) m' (ys ++ [v]) (upd H3 D (.lst (ys ++ [v])))))
noncomputable def tComp (wi : TI) (g : TG) (te : TE) (lv : Nat) (caps : List Nat) : TE := fun σ H Q => wi σ H fun J H1 => compW J g te (seen lv caps σ) Q H1
structure CompOk (X : Cx) (scope : Scope) (lv : Nat) (caps : List Nat) (N' : List Str) : Prop where
  kind : scope.kind = .function
  cell : ∀ y ∈ scope.names, y.2 ≠ .cell
  free : ∀ y ∈ scope.names, y.2 = .free → X.env.kindOf y.1 = some .cell ∨ X.env.kindOf y.1 = some .free
  loc : ∀ y ∈ scope.names, y.2 = .local → scope.names.lookup y.1 = some .local
  len : N'.length = lv + caps.length
  cap : ∀ (p : Nat) (j : Nat), caps[p]? = some j → ∃ x, N'[lv + p]? = some x ∧ X.N[j]? = some x ∧ scope.names.lookup x = some .free
section
variable {X : Cx} {pins : List (Addr × Obj)} {σ : St} {H : Hp} {s : Shared}
theorem relabel_kind {scope : Scope} {env : Env} {x : Str} {k : NameKind} (h : (relabel scope env).names.lookup x = some k) (hc : ∀ y ∈ scope.names, y.2 ≠ .cell) (hk : k = .cell ∨ k = .free) : (x, NameKind.free) ∈ scope.names := by
  have hm := PySem.mem_of_lookup h
  obtain ⟨⟨n, k'⟩, h1, h2⟩ := List.mem_map.mp hm
  dsimp only at h2
  split at h2
  · rename_i hif
    cases h2
    have : k' = .free := by
      simp only [Bool.and_eq_true, beq_iff_eq] at hif
      exact hif.1.1
    subst this
    exact h1
  · cases h2
    rcases hk with rfl | rfl
    · exact absurd rfl (hc _ h1)
    · exact h1
theorem lookup_relabel_free {env : Env} : ∀ {names : List (Str × NameKind)} {x : Str}, names.lookup x = some .free →
    (names.map fun (n, k) => if (k == NameKind.free && env.scope.kind == .function && env.kindOf n == some .cell) then (n, NameKind.cell) else (n, k)).lookup x = some .free ∨
    (names.map fun (n, k) => if (k == NameKind.free && env.scope.kind == .function && env.kindOf n == some .cell) then (n, NameKind.cell) else (n, k)).lookup x = some .cell
  | [], _, h => by simp at h
  | (n, k) :: r, x, h => by
    have ih := @lookup_relabel_free env r x
    rw [List.map_cons]
    dsimp only
    cases e : (x == n) with
    | true =>
      rw [List.lookup_cons, e] at h
      have hk : k = .free := Option.some.inj h
      subst hk
      split
      · exact .inr (by rw [List.lookup_cons, e])
      · exact .inl (by rw [List.lookup_cons, e])
    | false =>
      rw [List.lookup_cons, e] at h
      split
      · rw [List.lookup_cons, e]; exact ih h
      · rw [List.lookup_cons, e]; exact ih h
theorem inv_comp {scope : Scope} {lv : Nat} {caps : List Nat} {N' : List Str} {fp : List Addr} {h₁ : Heap} (ok : CompOk X scope lv caps N') (I : Inv X pins σ H s) (hf : ∀ b ∈ fp, FpOk X pins H b)
    (hns : h₁.Ns s.heap.objs.size fun _ => none) (hk : ∀ b o, s.heap.get? b = some o → h₁.get? b = some o) (hfp : ∀ b ∈ fp, b < s.heap.objs.size) (t' : Nat) :
    Inv (X.comp scope s.heap.objs.size N' s H fp) [] (seen lv caps σ) H { s with heap := h₁, toks := t' } := by
  have ne : ∀ {b : Addr} {o : Obj}, s.heap.get? b = some o → b ≠ s.heap.objs.size := fun e => Nat.ne_of_lt (Heap.lt_size e)
  refine ⟨⟨I.ok.mod, ok.kind, I.ok.glob, I.ok.blt, Nat.le_refl _, fun x y c h1 h2 => I.ok.inj x y c (cl_look h1) (cl_look h2), fun x hx => ?_, (fun x c h => nomatch h), I.ok.hd, I.ok.frames, .inl rfl, fun b hb => ⟨Nat.ne_of_lt (hfp b hb), fun x c e => (hf b hb).2.2.2.2.1 x c (cl_look e)⟩,
    I.bs, Nat.le_trans I.ok.bsz I.sz, fun b o e hb => ?_, fun b hb hfs => ?_, I.stack, I.stkFree⟩, rfl, I.bare, Un.kept hk, ⟨_, hns, fun i x v h1 h2 h3 => ?_⟩, fun x c e => ?_, I.fresh, fun x c e => I.freeC x c (cl_look e), fun p hp => absurd (show p ∈ ([] : List (Addr × Obj)) from hp) (by simp), I.hok.kept hk, ?_⟩
  · have hm : (x, NameKind.free) ∈ scope.names := by
      rcases hx with hx | hx
      · exact relabel_kind hx ok.cell (.inl rfl)
      · exact relabel_kind hx ok.cell (.inr rfl)
    obtain ⟨c, hc⟩ := I.ok.has x (ok.free _ hm rfl)
    exact look_of_mem (clIn_has hc hm)
  · rcases (hf b hb).2.2.2.1 with z | z
    · exact I.ok.noex b o e z
    · exact absurd (Nat.lt_of_lt_of_le (Heap.lt_size (I.ok.bs b o e).1) z) (Nat.lt_irrefl _)
  · rcases List.mem_cons.mp (I.stkSub b hfs) with z | z
    · exact (hf b hb).2.1 z
    · exact (hf b hb).2.2.1 z
  · unfold seen at h2
    rcases Nat.lt_or_ge i lv with hi | hi
    · rw [List.getElem?_append_left (by simpa using hi), List.getElem?_replicate_of_lt hi] at h2
      cases h2
    · rw [List.getElem?_append_right (by simpa using hi), List.length_replicate, List.getElem?_map] at h2
      cases hj : caps[i - lv]? with
      | none => rw [hj] at h2; cases h2
      | some j =>
        rw [hj] at h2
        have h2' : (σ[j]?).join = some v := Option.some.inj h2
        obtain ⟨x', e1, e2, e3⟩ := ok.cap (i - lv) j hj
        rw [show lv + (i - lv) = i by omega] at e1
        have h1' : N'[i]? = some x := h1
        rw [h1'] at e1; cases e1
        have hσ : σ[j]? = some (some v) := by
          cases q : σ[j]? with
          | none => rw [q] at h2'; cases h2'
          | some o => rw [q] at h2'; cases o with
            | none => cases h2'
            | some v' => have : some v' = some v := h2'; cases this; rfl
        have hk' := ok.free (x, .free) (PySem.mem_of_lookup e3) rfl
        obtain ⟨m, _, hl⟩ := I.loc
        have hv : Vis X.env.scope x := by rcases hk' with z | z; exact .inr (.inl z); exact .inr (.inr z)
        obtain ⟨u, r, l⟩ := hl j x v e2 hσ hv
        refine ⟨u, r, .inr ⟨?_, ?_⟩⟩
        · exact (lookup_relabel_free (env := X.env) e3).symm
        · rcases l with ⟨k, _⟩ | ⟨k, c, e, o, ho, hd⟩
          · rcases hk' with z | z
            · rw [k] at z; cases z
            · rw [k] at z; cases z
          · obtain ⟨c', hc'⟩ := look_of_mem (clIn_has (cs := []) e (PySem.mem_of_lookup e3))
            have := cl_look (scope := scope) (env := X.env) hc'
            rw [e] at this; cases this
            exact ⟨c, hc', o, hk c o ho, hd⟩
  · obtain ⟨v, o, ho, hd⟩ := I.cell x c (cl_look e)
    exact ⟨v, o, hk c o ho, hd⟩
  · show (seen lv caps σ).length = N'.length
    unfold seen
    rw [List.length_append, List.length_replicate, List.length_map, ok.len]
noncomputable def Stays (σ σ2 : St) : Prop := ∀ (j : Nat) v, σ[j]? = some (some v) → σ2[j]? = some (some v)
noncomputable def GKeep (g : TG) (lv : Nat) (caps : List Nat) : Prop := ∀ (σ : St) (y : V) (H' : Hp) (Q : St → Hp → Prop), g y (seen lv caps σ) H' Q → g y (seen lv caps σ) H' fun σ2 H2 => Q σ2 H2 ∧ Stays (seen lv caps σ) σ2
theorem stays_set {lv : Nat} {caps : List Nat} {σ σ2 : St} {i : Nat} {y : V} (hi : i < lv) (h : Stays (seen lv caps σ) σ2) : Stays (seen lv caps σ) (σ2.set i (some y)) := by
  intro j v e
  by_cases hj : i = j
  · subst hj
    unfold seen at e
    rw [List.getElem?_append_left (by simpa using hi), List.getElem?_replicate_of_lt hi] at e
    cases e
  · rw [List.getElem?_set_ne hj]
    exact h j v e
theorem keep_name {i lv : Nat} {caps : List Nat} (hi : i < lv) : GKeep (gName i) lv caps := fun _ _ _ _ q => ⟨q, stays_set hi fun _ _ e => e⟩
theorem compLoop_any {prog : Program} {w : World} {A : Around} {s : Shared} {elt tg iter : Expr} {scope : Scope} {pos : Pos} {it acc : Value} {env : Env} {R : Result → Shared → Prop} (J : Nat → Shared → Prop)
    (turn : ∀ n s, J n s → wpAny (model prog w) A (pyNext it) (fun r s1 => match r with
      | none => R (.ok .next) s1
      | some v => wpAny (model prog w) A (letOwnedTupleGo tg it v) (fun _ s2 => wpAny (model prog w) A (assign tg env v) (fun _ s3 => wpAny (model prog w) A (eval elt env) (fun x s4 =>
          wpAny (model prog w) A (call (.builtin "list.append") [acc, x]) (fun _ s5 => ∃ m, m < n ∧ J m s5) (notedBy (model prog w) A env fun e s' => R (.error e) s') s4) (notedBy (model prog w) A env fun e s' => R (.error e) s') s3)
          (notedBy (model prog w) A env fun e s' => R (.error e) s') s2) (notedBy (model prog w) A env fun e s' => R (.error e) s') s1) (notedBy (model prog w) A env fun e s' => R (.error e) s') s)
    (n : Nat) (h : J n s) : codeAny (model prog w) A (.compLoop (.ListComp elt [⟨tg, iter, [], 0⟩] scope pos) 0 it acc env) R s := by
  refine codeAny_loop rfl J (fun n s hJ => ?_) n h
  show wpAny _ A ((compTurn (.ListComp elt [⟨tg, iter, [], 0⟩] scope pos) 0 it acc env).onRaise (fun x => do noteFrame x env; theTreesLotGoes x)) _ _ s
  refine wpAny_noted ?_; rw [compTurn_list]
  refine wpAny_bind (wpAny_standAt (wpAny_bind (wpAny_mono (turn n s hJ) (fun r s1 h1 => ?_) fun _ _ z => z)))
  match r, h1 with
  | none, h1 => exact wpAny_pure h1
  | some v, h1 =>
    refine wpAny_bind (wpAny_mono h1 (fun _ s2 h2 => ?_) fun _ _ z => z)
    refine wpAny_bind (wpAny_mono h2 (fun _ s3 h3 => wpAny_bind (wpAny_mono (wpAny_tests_nil (Q := fun ok q => ok = true ∧ q = s3) ⟨rfl, rfl⟩) (fun ok q hq => ?_) fun _ _ z => z)) fun _ _ z => z)
    obtain ⟨e1, e2⟩ := hq
    subst e1 e2
    exact wpAny_bind (wpAny_bind (wpAny_mono h3 (fun x s4 h4 => wpAny_bind (wpAny_mono h4 (fun _ s5 h5 => wpAny_pure (wpAny_pure ⟨rfl, h5⟩)) fun _ _ z => z)) fun _ _ z => z))
theorem comp_loop {elt iter : Expr} {tg : Expr} {pos : Pos} {scope : Scope} {g : TG} {te : TE} {lv : Nat} {caps : List Nat} {N' : List Str} {fp : List Addr} {it D C : Addr} {tn : Nat → Heap → Prop} {J : It} {H3 : Hp} {s3 s4 : Shared} {Q : VK} {W : Nat → Nat → List V → Hp → Prop} {m0 : Nat}
    (hc : X.calm = true) (T : Turn X.prog X.w X.K tg J fp it tn) (hC : s3.heap.objs.size ≤ C) (I3 : Inv X pins σ H3 s3) (f3 : ∀ b ∈ fp, FpOk X pins H3 b) (hCf : ∀ b ∈ fp, b ≠ C) (I4 : Inv (X.comp scope C N' s3 H3 fp) [] (seen lv caps σ) H3 s4) (st4 : tn 0 s4.heap) (w0 : W 0 m0 [] H3)
    (turn : ∀ i m ys H, W i m ys H → H D = some (.lst ys) ∧ ys.length < sizeLine ∧ ((J.stop i H ∧ Q (.ref D) H) ∨ (J.go i H ∧ ∀ x H', J.yld i H x H' → g x (seen lv caps σ) H' fun σ2 H2 => te σ2 H2 fun v H3 => H3 D = some (.lst ys) ∧
      ∃ m', m' < m ∧ W (i + 1) m' (ys ++ [v]) (upd H3 D (.lst (ys ++ [v]))))))
    (hgk : GKeep g lv caps) (hg : PG (X.comp scope C N' s3 H3 fp) tg g) (he : PE (X.comp scope C N' s3 H3 fp) elt te) :
    codeAny (model X.prog X.w) X.A (.compLoop (.ListComp elt [⟨tg, iter, [], 0⟩] scope pos) 0 (.ref it) (.ref D) (compEnvC scope (clOf scope X.env) C X.env))
      (compPost (model X.prog X.w) X.A X.xe none (EP X pins σ Q) (.ref D) C) s4 := by
  have stat : ∀ {H' : Hp}, (∀ b ∈ fp, H' b = none) → ∀ b ∈ fp, FpOk (X.comp scope C N' s3 H3 fp) [] H' b := fun {H'} hn b hb =>
    ⟨hn b hb, hCf b hb, fun z => I4.ok.exfs b hb z, .inl hb, fun y c e => (I4.ok.exf b hb).2 y c e, fun p hp => absurd (show p ∈ ([] : List (Addr × Obj)) from hp) (by simp)⟩
  refine compLoop_any (fun n s' => ∃ i ys H', Inv (X.comp scope C N' s3 H3 fp) [] (seen lv caps σ) H' s' ∧ tn i s'.heap ∧ (∀ b ∈ fp, H' b = none) ∧ W i n ys H') ?_ m0 ⟨0, [], _, I4, st4, fun b hb => (f3 b hb).1, w0⟩
  rintro n s5 ⟨i, ys, H5, I5, st5, fr5, w5⟩
  obtain ⟨hD, hlen, hcase⟩ := turn i n ys H5 w5
  rcases hcase with ⟨stop, q⟩ | ⟨go, step⟩
  · refine thn (T.done (X.comp scope C N' s3 H3 fp) rfl rfl rfl hc i [] s5 _ H5 _ I5 (stat fr5) st5 stop) fun r s6 hr => ?_
    obtain ⟨hr, I6⟩ := hr
    subst hr
    obtain ⟨m, hn, _⟩ := I6.loc
    refine ⟨m, hn, fun h' hs' => ?_⟩
    have ub := I6.base
    have neC : ∀ b o, s3.heap.get? b = some o → b ≠ C := fun b o q => Nat.ne_of_lt (Nat.lt_of_lt_of_le (Heap.lt_size q) hC)
    refine ⟨.ref D, H5, I3.call' (ch := fp) (s' := { s6 with heap := h' }) I6.os ⟨fun b o q n hb hx => (hs'.2 b (neC b o q)).trans (ub.keep b o q n hb hx), fun b o q n hb hx => ?_, ub.free, fun b o q hx => ?_, ub.tups, ub.frzs, ub.tbls⟩ ?_ I6.bare (fun b hb => ?_), rfl, q⟩
    · obtain ⟨sl, e⟩ := ub.slot b o q n hb hx
      exact ⟨sl, (hs'.2 b (neC b o q)).trans e⟩
    · obtain ⟨o', e⟩ := ub.there b o q hx
      exact ⟨o', (hs'.2 b (neC b o q)).trans e⟩
    · intro b o q
      refine (I6.hok b o q).stay (fun c u hc' q' => (hs'.2 c ?_).trans q') (fun _ z => z) fun _ _ z => z
      intro ec
      have fC : H5 C = none := I6.free
      rcases hc' with z | z
      · rw [← z, ec, fC] at q; cases q
      · rw [ec, fC] at z; cases z
    · obtain ⟨_, y1, _, y3, y4, y5⟩ := f3 b hb
      exact ⟨y3, y1, y4, y5⟩
  · refine thn (T.item (X.comp scope C N' s3 H3 fp) rfl rfl rfl hc i [] s5 _ H5 _ I5 (stat fr5) st5 go) fun r s6 hr => ?_
    obtain ⟨u, hr, h6⟩ := hr
    subst hr
    refine thn h6 fun _ s7 h7 => ?_
    obtain ⟨y, H7, I7, r7, y7, st7, fr7⟩ := h7
    have I7' := I7.pinned (stat fr7) (T.obj _ _ st7)
    refine wpAny_mono (hg _ s7 _ H7 y u _ I7' r7 (hgk σ y H7 _ (step y H7 y7))) (fun _ s8 h8 => ?_) (fun _ _ z => z.elim)
    obtain ⟨σ8, H8, I8, q8, ks⟩ := h8
    refine wpAny_mono (he _ s8 σ8 H8 _ I8 q8) (fun v s9 h9 => ?_) (fun _ _ z => z.elim)
    obtain ⟨z9, H9, I9, r9, hD9, m', hm', w9⟩ := h9
    refine wpAny_mono (mt_append (X := X.comp scope C N' s3 H3 fp) _ s9 σ8 H9 (.ref D) [z9] (.ref D) [v] (fun _ H' => H' = upd H9 D (.lst (ys ++ [z9]))) I9 rfl (.cons r9 .nil) ⟨D, ys, z9, rfl, rfl, hD9, hlen, rfl⟩) (fun _ s10 h10 => ?_) (fun _ _ z => z.elim)
    obtain ⟨_, H10, I10, _, rfl⟩ := h10
    refine ⟨m', hm', i + 1, ys ++ [z9], _, I10.unpinned.weak ?_ ?_, T.keep _ _ _ st7 fun b hb o e => (I10.pin (b, o) (List.mem_append_right _ (List.mem_append_right _ (mem_pinsAt hb e)))).1, fun b hb => ?_, w9⟩
    · rw [I10.len]; exact I4.len
    · exact ks
    · obtain ⟨o, e, d⟩ := T.obj _ _ st7 b hb
      exact (I10.pin (b, o) (List.mem_append_right _ (List.mem_append_right _ (mem_pinsAt hb e)))).2.1
theorem pe_comp {elt iter : Expr} {tg : Expr} {pos : Pos} {scope : Scope} {wi : TI} {g : TG} {te : TE} {lv : Nat} {caps : List Nat} {N' : List Str} (hc : X.calm = true) (ok : CompOk X scope lv caps N') (hgk : GKeep g lv caps) (hi : PI X tg iter wi)
    (hg : ∀ C s H fp, PG (X.comp scope C N' s H fp) tg g) (he : ∀ C s H fp, PE (X.comp scope C N' s H fp) elt te) (hs : ∀ y, foldedSetIterable iter X.env y = pure y := by intro _; rfl) :
    PE X (.ListComp elt [⟨tg, iter, [], 0⟩] scope pos) (tComp wi g te lv caps) := by
  intro pins s σ H Q I h
  rw [eval_ListComp]
  refine wpAny_comprehension_free (use := none) rfl hs (closure_eq fun y hy hk => I.ok.has y.1 (ok.free y hy hk)) ok.kind ok.loc (thn (hi pins s σ H _ I h) fun v s1 h1 => thn h1 fun itv s2 h2 => ?_)
  obtain ⟨it, fp, tn, J, H2, e, I2, T, st2, f2, hW⟩ := h2
  subst e
  have fpl : ∀ b ∈ fp, b < s2.heap.objs.size := fun b hb => by obtain ⟨o, e, _⟩ := T.obj 0 _ st2 b hb; exact Heap.lt_size e
  refine wpAny_newObj_type ?_
  have I3 : Inv X pins σ (upd H2 s2.heap.objs.size (.lst [])) { s2 with heap := s2.heap.push { cls := .type "list", data := .seq ([] : List Value).toArray }, toks := s2.toks } := I2.lnew (its := []) .nil (Nat.zero_le _)
  obtain ⟨W, ⟨m0, w0⟩, turn⟩ := hW s2.heap.objs.size I2.fresh
  refine wpAny_newFunctionEnv ok.cell (by intro y hy; simp at hy) (fun h₁ hns₁ hsb₁ => ?_) ok.kind
  have hk3 : ∀ b o, (s2.heap.push { cls := .type "list", data := .seq ([] : List Value).toArray }).get? b = some o → h₁.get? b = some o := fun b o q =>
    (hsb₁.2 b (Nat.ne_of_lt (Heap.lt_size q))).trans (Heap.get?_push_of_some _ q)
  have f3 : ∀ b ∈ fp, FpOk X pins (upd H2 s2.heap.objs.size (.lst [])) b := fun b hb => by
    obtain ⟨n, r⟩ := f2 b hb
    exact ⟨by rw [upd_ne (Nat.ne_of_lt (fpl b hb))]; exact n, r⟩
  have fpl3 : ∀ b ∈ fp, b < (s2.heap.push { cls := .type "list", data := .seq ([] : List Value).toArray }).objs.size := fun b hb => by rw [Heap.size_push]; exact Nat.lt_succ_of_lt (fpl b hb)
  have I4 := inv_comp ok I3 f3 hns₁ hk3 fpl3 (s2.toks + 0)
  have st4 : tn 0 h₁ := T.keep _ _ _ st2 fun b hb o q => hk3 b o (Heap.get?_push_of_some _ q)
  have loop := comp_loop (elt := elt) (iter := iter) (pos := pos) (s4 := { s2 with heap := h₁, toks := s2.toks + 0 }) hc T (Nat.le_refl _) I3 f3 (fun b hb => Nat.ne_of_lt (fpl3 b hb)) I4 st4 w0 turn hgk (hg _ _ _ _) (he _ _ _ _)
  exact codeAny_compStart_list loop (T.self _ 0 _ _ _ st4 loop)
end
end L2
set_option Elab.async false
set_option linter.all false
set_option maxRecDepth 100000
set_option maxHeartbeats 2000000
namespace L2
open PySem PySem.Spec PyProof.Rows
section
variable {X : Cx}
inductive rIsi (K : PySem.W.Frag) (xs : List V) (H : Hp) (Q : VK) : Prop
  | mk (x : V) (t : Value) (c : String) (b : Bool) (e : xs = [x, .ty c]) (ty : TyOf K H x t) (k : PySem.W.kitOne K t (.type c) = some b) (q : Q (.bl b) H) : rIsi K xs H Q
theorem call_isi : CallR X (.builtin "isinstance") (rIsi X.K) := by
  intro pins s σ H xs us Q I r h
  obtain ⟨x, t, c, b, rfl, ty, e, q⟩ := h
  obtain ⟨u, v, rfl, rx, rc⟩ := vals2 r
  cases rc
  exact isinst_ok I rx ty e fun tk => ⟨.bl b, H, I.tok _, rfl, q⟩
theorem call_sorted : CallR X (.builtin "sorted") (fun xs H Q => ∃ p, ∃ ns : List Int, xs = [.ref p] ∧ SqL X.K H p (ns.map V.int) ∧ ns.length < 64 ∧
    ∀ l (ns' : List Int), H l = none → ns'.Perm ns → ns'.Pairwise (· ≤ ·) → Q (.ref l) (upd H l (.lst (ns'.map V.int)))) := by
  intro pins s σ H xs us Q I r h
  obtain ⟨p, ns, rfl, hq, h64, q⟩ := h
  obtain ⟨u, rfl, rx⟩ := vals1 r
  cases rx
  obtain ⟨its, rv, pl, hz⟩ := I.list hq
  have hI := intsAre_of rv
  have hlen : its.length = ns.length := by rw [← rv.length, List.length_map]
  refine sorted_ints pl.isList hI (by omega) fun out ns' a1 a2 a3 => ?_
  obtain ⟨e, he⟩ := sortedAll_at s.heap its out
  have hl : s.heap.objs.size ≤ s.heap.objs.size + 1 := Nat.le_succ _
  refine ⟨.ref (s.heap.objs.size + 1), _, I.laid (t' := s.toks) (o := .lst (ns'.map V.int)) (fun b o z => sortedAll_old z) hl ?_, rfl, q _ ns' (I.hok.fresh hl) a2 a3⟩
  have e2 : out = out.toList.toArray := by simp
  refine ⟨?_, out.toList, e, vals_ints a1, by rw [← e2]; exact he⟩
  rw [List.length_map, a2.length_eq, ← hlen]
  have := line63
  have h2 : (64 : Nat) ≤ sizeLine := by decide
  omega
theorem call_all (hc : X.calm = true) : CallR X (.builtin "all") (fun xs H Q => ∃ p, ∃ bs : List Bool, xs = [.ref p] ∧ SqL X.K H p (bs.map V.bl) ∧ Q (.bl (bs.all id)) H) := by
  intro pins s σ H xs us Q I r h
  obtain ⟨p, bs, rfl, hq, q⟩ := h
  obtain ⟨u, rfl, rx⟩ := vals1 r
  cases rx
  obtain ⟨its, rv, pl, hz⟩ := I.list hq
  have hl := pl.isList
  have hlt : p < s.heap.objs.size := by obtain ⟨_, e, _⟩ := id hl; exact Heap.lt_size e
  have htr : TruthOf X.prog X.w X.A.in1 (fun i v => its.toArray[i]? = some v) (fun i => (bs[i]?).getD true) := by
    intro i v s' Q' E' hv hQ
    have hv' : its[i]? = some v := by simpa using hv
    cases hb : bs[i]? with
    | none =>
      have : its[i]? = none := rv.none_of (by rw [List.getElem?_map, hb]; rfl)
      rw [this] at hv'; cases hv'
    | some b =>
      obtain ⟨u, hu, ru⟩ := rv.get (x := .bl b) (i := i) (by rw [List.getElem?_map, hb]; rfl)
      rw [hv'] at hu; cases hu
      cases ru
      dsimp only at hQ
      rw [hb] at hQ
      exact wpAny_truthy_bool hQ
  refine call_all_walk (wpAny_pyIter_list hl ⟨_, _, _, _, _, _, _, rfl, Walks.list (A := X.A.in1) (I.ok.hd hc) _ p (Nat.ne_of_lt hlt) its.toArray, ⟨⟨_, Heap.get?_push_size _ rfl, rfl, rfl⟩, hl.push _⟩, htr, fun h' tk hk => ?_⟩)
  have keep : ∀ b o, s.heap.get? b = some o → h'.get? b = some o := fun b o e => hk b o (by simp; exact Nat.ne_of_lt (Heap.lt_size e)) (Heap.get?_push_of_some _ e)
  refine ⟨.bl (bs.all id), H, I.kept keep, ?_, q⟩
  have hlen : its.toArray.size = bs.length := by rw [List.size_toArray, ← rv.length, List.length_map]
  have ha : ((List.range its.toArray.size).all fun i => (bs[i]?).getD true) = bs.all id := by
    rw [hlen]
    apply Bool.eq_iff_iff.mpr
    simp only [List.all_eq_true, List.mem_range]
    constructor
    · intro h b hb
      obtain ⟨i, hi, e⟩ := List.mem_iff_getElem.mp hb
      have := h i hi
      rw [List.getElem?_eq_getElem hi, e] at this
      exact this
    · intro h i hi
      rw [List.getElem?_eq_getElem hi]
      exact h _ (List.getElem_mem hi)
  show Value.bool _ = Value.bool _
  rw [ha]
mutual
inductive RdD (K : PySem.W.Frag) (H : Hp) : V → PyData → Prop where
  | non : RdD K H .non .none
  | bl (b : Bool) : RdD K H (.bl b) (.bool b)
  | int (i : Int) : RdD K H (.int i) (.int i)
  | str (x : Str) : RdD K H (.str x) (.str x)
  | lst {a : Addr} {xs : List V} {ds : List PyData} : SqL K H a xs → RdDs K H xs ds → RdD K H (.ref a) (.list ds)
  | tup {a : Addr} {xs : List V} {ds : List PyData} : SqT K H a xs → RdDs K H xs ds → RdD K H (.ref a) (.tuple ds)
inductive RdDs (K : PySem.W.Frag) (H : Hp) : List V → List PyData → Prop where
  | nil : RdDs K H [] []
  | cons {x : V} {d : PyData} {xs : List V} {ds : List PyData} : RdD K H x d → RdDs K H xs ds → RdDs K H (x :: xs) (d :: ds)
end
theorem RdDs.ints {K : PySem.W.Frag} {H : Hp} : ∀ ns : List Int, RdDs K H (ns.map V.int) (ns.map PyData.int)
  | [] => .nil
  | _ :: r => .cons (.int _) (RdDs.ints r)
mutual
theorem reads_of {pins : List (Addr × Obj)} {σ : St} {H : Hp} {s : Shared} (I : Inv X pins σ H s) : ∀ {x : V} {d : PyData} {u : Value}, RdD X.K H x d → RelV x u → ∃ as, Reads s.heap u d as
  | _, _, _, .non, r => by cases r; exact ⟨_, .none⟩
  | _, _, _, .bl b, r => by cases r; exact ⟨_, .bool b⟩
  | _, _, _, .int i, r => by obtain ⟨t, rfl⟩ := r; exact ⟨_, .int i t⟩
  | _, _, _, .str x, r => by obtain ⟨t, rfl⟩ := r; exact ⟨_, .str x t⟩
  | _, _, _, .lst hq hs, r => by
    cases r
    obtain ⟨its, rv, pl, _⟩ := I.list hq
    obtain ⟨o, ho, hc, n, hd⟩ := pl.isList
    obtain ⟨as, h⟩ := reads_all I hs rv
    exact ⟨_, .list ho hc hd (by simpa using h)⟩
  | _, _, _, .tup hq hs, r => by
    cases r
    obtain ⟨its, rv, ⟨o, ho, hc, n, hd⟩, _⟩ := I.tuple hq
    obtain ⟨as, h⟩ := reads_all I hs rv
    exact ⟨_, .tuple ho hc hd (by simpa using h)⟩
theorem reads_all {pins : List (Addr × Obj)} {σ : St} {H : Hp} {s : Shared} (I : Inv X pins σ H s) : ∀ {xs : List V} {ds : List PyData} {us : List Value}, RdDs X.K H xs ds → Vals xs us → ∃ as, ReadsAll s.heap us ds as
  | _, _, _, .nil, .nil => ⟨_, .nil⟩
  | _, _, _, .cons h t, .cons r q => by
    obtain ⟨as, h1⟩ := reads_of I h r
    obtain ⟨bs, h2⟩ := reads_all I t q
    exact ⟨_, .cons h1 h2⟩
end
inductive rNeD (K : PySem.W.Frag) (x y : V) (H : Hp) (Q : VK) : Prop
  | mk (d e : PyData) (rx : RdD K H x d) (ry : RdD K H y e) (sd : SeqAt.shaped d = true) (se : SeqAt.shaped e = true) (q : Q (.bl (!PyData.eqv d e)) H) : rNeD K x y H Q
theorem op_neD (hu : X.A.units + 64 < cLine) : OpR X (compareOp .NotEq) (rNeD X.K) := by
  intro pins s σ H x y v u Q I rx ry h
  obtain ⟨d, e, hd, he, s1, s2, q⟩ := h
  obtain ⟨as, r1⟩ := reads_of I hd rx
  obtain ⟨bs, r2⟩ := reads_of I he ry
  exact ne_dataH r1 r2 s1 s2 hu ⟨.bl _, H, I, rfl, q⟩
end
end L2
set_option Elab.async false
set_option linter.all false
set_option maxRecDepth 100000
set_option maxHeartbeats 2000000
namespace L2
open PySem PySem.Spec PyProof.Rows
inductive Sp1 (f : V → Hp → VK → XK → Prop) (vs : List V) (H : Hp) (Q : VK) (E : XK) : Prop
  | mk (a : V) (e : vs = [a]) (h : f a H Q E) : Sp1 f vs H Q E
inductive Sp2 (f : V → V → Hp → VK → XK → Prop) (vs : List V) (H : Hp) (Q : VK) (E : XK) : Prop
  | mk (a b : V) (e : vs = [a, b]) (h : f a b H Q E) : Sp2 f vs H Q E
inductive Sp3 (f : V → V → V → Hp → VK → XK → Prop) (vs : List V) (H : Hp) (Q : VK) (E : XK) : Prop
  | mk (a b c : V) (e : vs = [a, b, c]) (h : f a b c H Q E) : Sp3 f vs H Q E
structure Def (K : PySem.W.Frag) (mg : Str → Option Value) (x : Str) (st : Stmt) : Prop where
  ex : ∃ f fd, Fun K x x st f fd ∧ mg x = some (.ref f)
theorem def_mk {K : PySem.W.Frag} {h : Heap} {mg : Str → Option Value} {x : Str} {st : Stmt} {f : Addr} {oc : Value} {od an : Option Addr} {osl : Array (Option Value)} {kV doc pm cdv ct : Value} (X : K.In h) (G : h.Ns mainGlobals mg)
    (a : PySem.W.nsIn K mainGlobals x = some (some (.ref f))) (l : K.lookup f = some ⟨oc, od, .func (PySem.W.fnOf x x (defArgs st) (defBody st) (defScope st) .none kV doc pm an cdv ct), osl⟩) (c : PySem.W.codeIn K cdv x = true) (k : PySem.W.keepIn K (.ref f) = true) : Def K mg x st :=
  ⟨f, _, fun_mk l c k, PySem.W.mg_of X G a⟩
structure FnS (P : Program) (w : World) (K : PySem.W.Frag) (mg : Str → Option Value) (base : Heap) (x : Str) (ps : List Str) (k : Nat) (sp : Sp) : Prop where
  ex : ∃ f fd, FnOk P w K mg base (CX1 P w) k f fd ps sp ∧ mg x = some (.ref f) ∧ PySem.W.keepIn K (.ref f) = true ∧ Binds K fd ps []
noncomputable def BindsAll (x : Str) (st : Stmt) (ps : List Str) : Prop := ∀ (kV doc pm : Value) (an : Option Addr) (cdv ct : Value) (us : List Value), us.length = ps.length → bindArgs (PySem.W.fnOf x x (defArgs st) (defBody st) (defScope st) .none kV doc pm an cdv ct) ⟨us, []⟩ = pure (ps.zip us)
section
variable {P : Program} {w : World} {K : PySem.W.Frag} {mg : Str → Option Value} {base : Heap}
theorem Def.ok {x : Str} {st : Stmt} {N ps : List Str} {k : Nat} {sp : Sp} (D : Def K mg x st) (S : FnScope N ps (defScope st)) (B : BindsAll x st ps) (len : ∀ vs H Q E, sp vs H Q E → vs.length = ps.length)
    (hbody : ∀ (f : Addr) (cdv : Value) (A : Around) (outer : List Env) (s : Shared) (H : Hp) (vs : List V) (Q : VK) (E : XK), Room k (A.deeper (envOfC x (defScope st) s.heap.objs.size f cdv)) → sp vs H Q E →
      ∃ t, PSs (cxOf (CX1 P w) P w K mg base N x (defScope st) f cdv A outer s H E) (defBody st) t ∧ t { nx := fun _ H' => Q .non H', rt := Q } (start N vs) H) : FnS P w K mg base x ps (k + 1) sp := by
  obtain ⟨f, fd, F, hm⟩ := D.ex
  exact ⟨f, fd, F.okX S len (hbody f), hm, F.kp, F.binds B⟩
theorem sp1_len {f : V → Hp → VK → XK → Prop} {a : Str} : ∀ vs H Q E, Sp1 f vs H Q E → vs.length = [a].length := fun _ _ _ _ ⟨_, e, _⟩ => by rw [e]; rfl
theorem sp2_len {f : V → V → Hp → VK → XK → Prop} {a b : Str} : ∀ vs H Q E, Sp2 f vs H Q E → vs.length = [a, b].length := fun _ _ _ _ ⟨_, _, e, _⟩ => by rw [e]; rfl
theorem sp3_len {f : V → V → V → Hp → VK → XK → Prop} {a b c : Str} : ∀ vs H Q E, Sp3 f vs H Q E → vs.length = [a, b, c].length := fun _ _ _ _ ⟨_, _, _, e, _⟩ => by rw [e]; rfl
end
section
variable {X : Cx}
inductive tCut (G : St → Hp → Prop) (t u : TS) (D : Ends) (σ : St) (H : Hp) : Prop
  | mk (h1 : ∀ σ' H', G σ' H' → u D σ' H') (h2 : t { D with nx := G } σ H) : tCut G t u D σ H
theorem pss_cut {st : Stmt} {rest : List Stmt} {t u : TS} (G : St → Hp → Prop) (h1 : PS X st t) (h2 : PSs X rest u) : PSs X (st :: rest) (tCut G t u) := by
  intro pins s σ H D I ⟨hA, hB⟩
  refine wpAny_execs_cons (thn (h1 pins s σ H { D with nx := G } I hB) fun f s1 q => ?_)
  cases f with
  | next =>
    obtain ⟨σ', H', I', q⟩ := q
    exact h2 pins s1 σ' H' D I' (hA σ' H' q)
  | ret v => exact q
  | brk => exact q
  | cont => exact q
theorem pe_fn {x : Str} {ps : List Str} {k k' : Nat} {sp : Sp} {E : XK} {p pos : Pos} {e : Expr} {es : List Expr} {t : TA} (F : FnS X.prog X.w X.K X.mg X.base x ps k' sp) (hr : Room k X.A) (hx : Passes (CX1 X.prog X.w) X E) (ha : PA X (e :: es) t) (hkk : k' ≤ k := by decide) (hg : Gl X x := by rfl)
    (hdb : (x == ("__debug__" : Str)) = false := by decide) (he : starEach (e :: es) X.env = (false, eval e X.env) :: starEach es X.env := by rfl) (hpl : (backTo pos (starEach es X.env)).any (·.1) = false := by rfl) :
    PE X (.Call (.Name x p) (e :: es) [] pos) (tCall sp [] E t) := by
  obtain ⟨f, fd, F, hm, hk, hb⟩ := F.ex
  exact pe_call F (hr.mono hkk) hg hm hk hb .nil hx ha hdb he hpl
theorem pex_fn {x : Str} {ps : List Str} {k k' : Nat} {sp : Sp} {p pos : Pos} {e : Expr} {es : List Expr} {t : TA} (O : Own X) (F : FnS X.prog X.w X.K X.mg X.base x ps k' sp) (hr : Room k X.A) (ha : PA X.nox (e :: es) t) (hkk : k' ≤ k := by decide) (hg : Gl X x := by rfl)
    (hdb : (x == ("__debug__" : Str)) = false := by decide) (he : starEach (e :: es) X.env = (false, eval e X.env) :: starEach es X.env := by rfl) (hpl : (backTo pos (starEach es X.env)).any (·.1) = false := by rfl) :
    PEx X (.Call (.Name x p) (e :: es) [] pos) (fun σ H Q E => t σ H fun vs H1 => sp (vs ++ []) H1 Q E) := by
  obtain ⟨f, fd, F, hm, hk, hb⟩ := F.ex
  exact pex_call O F (hr.mono hkk) hg hm hk hb .nil ha hdb he hpl
end
end L2
set_option Elab.async false
set_option linter.all false
set_option maxRecDepth 100000
set_option maxHeartbeats 2000000
namespace L2
open PySem PySem.Spec PyProof.Rows
section
variable {X : Cx}
theorem pe_globI {x : Str} {i : Int} {pos : Pos} (h : ∃ t, X.mg x = some (.int i t)) (hg : Gl X x := by rfl) (hd : (x == ("__debug__" : Str)) = false := by decide) : PE X (.Name x pos) (tC (.int i)) := by
  obtain ⟨t, h⟩ := h
  exact pe_glob hg h ⟨t, rfl⟩ hd
theorem pe_ty {x : Str} {c : String} {pos : Pos} (hg : Gl X x) (hm : X.mg x = none) (hv : bootBuiltins x = some (.type c)) (hn : x ≠ "__name__" := by decide) (hd : (x == ("__debug__" : Str)) = false := by decide) : PE X (.Name x pos) (tC (.ty c)) :=
  pe_bltn (v := .ty c) hg hm hv rfl hn hd
inductive rCatS (K : PySem.W.Frag) (x y : V) (H : Hp) (Q : VK) : Prop
  | mk (l b : Addr) (xs zs : List V) (ex : x = .ref l) (ey : y = .ref b) (s : SqL K H l xs) (s' : SqL K H b zs) (z : xs.length + zs.length ≤ sizeLine) (q : ∀ p, H p = none → Q (.ref p) (upd H p (.lst (xs ++ zs)))) : rCatS K x y H Q
theorem op_catS : OpR X (binaryOp .Add) (rCatS X.K) := by
  intro pins s σ H x y v u Q I rx ry h
  obtain ⟨l, b, xs, zs, rfl, rfl, hH, hB, hz, q⟩ := h
  cases rx
  cases ry
  obtain ⟨its, r, pl, z⟩ := I.list hH
  obtain ⟨its2, r2, pl2, z2⟩ := I.list hB
  have l1 := r.length
  have l2 := r2.length
  have fin : EP X pins σ Q (.ref s.heap.objs.size) { s with heap := s.heap.push { cls := .type "list", data := .seq (its ++ its2).toArray } } :=
    ⟨.ref _, _, I.lnew (t' := s.toks) (r.append r2) (by rw [List.length_append]; omega), rfl, q _ I.fresh⟩
  obtain ⟨⟨c1, dd, d1, sl⟩, ho, hc, n, hd⟩ := pl.isList
  obtain ⟨⟨c2, dd2, d2, sl2⟩, ho2, hc2, n2, hd2⟩ := pl2.isList
  cases hc; cases hc2; cases hd; cases hd2
  refine concat_meets ⟨_, ho, rfl⟩ ⟨_, ho2, rfl⟩ noFill_list_add seq_list_add PySem.F.slot_list_add PySem.F.entry_list_add (PySem.F.args_list_add_2 _ _)
    (list_addW l b its.toArray its2.toArray n n2 dd dd2 sl sl2 (by rw [List.size_toArray, List.size_toArray]; omega)) ⟨ho, ho2, ?_⟩
  have ea : its.toArray ++ its2.toArray = (its ++ its2).toArray := by simp
  rw [ea]
  exact fin
theorem compcap0 {N' N : List Str} {scope : Scope} {lv : Nat} : ∀ (p j : Nat), ([] : List Nat)[p]? = some j → ∃ x, N'[lv + p]? = some x ∧ N[j]? = some x ∧ scope.names.lookup x = some .free := fun p j h => by simp at h
theorem compcap2 {N' N : List Str} {scope : Scope} {lv a b : Nat} {x y : Str} (h1 : N'[lv]? = some x) (h2 : N[a]? = some x) (h3 : scope.names.lookup x = some .free) (h4 : N'[lv + 1]? = some y) (h5 : N[b]? = some y) (h6 : scope.names.lookup y = some .free) :
    ∀ (p j : Nat), ([a, b] : List Nat)[p]? = some j → ∃ x, N'[lv + p]? = some x ∧ N[j]? = some x ∧ scope.names.lookup x = some .free := fun p j h => by
  match p with
  | 0 => have e : a = j := by simpa using h
         subst e; exact ⟨x, h1, h2, h3⟩
  | 1 => have e : b = j := by simpa using h
         subst e; exact ⟨y, h4, h5, h6⟩
  | p + 2 => simp at h
end
section
variable {prog : Program} {w : World} {A : Around} {R : Result → Shared → Prop} {I : Addr} {fp wr : List Addr} {n : Nat} {Pi : Nat → Value → Prop} {St : Nat → Heap → Prop} {S : Addr} {dv : Value}
end
section
variable {X : Cx}
end
end L2
set_option Elab.async false
set_option linter.all false
set_option maxRecDepth 100000
set_option maxHeartbeats 2000000
namespace L2
open PySem PySem.Spec PyProof.Rows
noncomputable def plainE : Expr → Bool
  | .Starred .. => false
  | _ => true
theorem star_plain {e : Expr} {es : List Expr} {env : Env} (h : plainE e = true) : starEach (e :: es) env = (false, eval e env) :: starEach es env := by
  cases e <;> first | rfl | cases h
theorem any_plain {env : Env} {pos : Pos} : ∀ {es : List Expr}, es.all plainE = true → (backTo pos (starEach es env)).any (·.1) = false
  | [], _ => rfl
  | e :: es, h => by
    rw [List.all_cons, Bool.and_eq_true] at h
    rw [star_plain h.1]
    show (false || (backTo pos (starEach es env)).any (·.1)) = false
    rw [any_plain h.2]; rfl
section
variable {X : Cx} {e : Expr} {es : List Expr} {te : TE} {t : TA} {x : Str} {p pos : Pos} {id T : String} {r : List V → Hp → VK → Prop}
theorem ac (ha : PE X e te) (hr : PA X es t) (hs : plainE e = true := by rfl) : PA X (e :: es) (tCons te t) := pa_cons ha hr (star_plain hs)
theorem cBi (hc : CallR X (.builtin id) r) (hg : Gl X x) (hm : X.mg x = none) (hv : bootBuiltins x = some (.builtin id)) (ha : PA X (e :: es) t) (hs : plainE e = true := by rfl) (hp : es.all plainE = true := by rfl) (hn : x ≠ "__name__" := by decide) (hdb : (x == ("__debug__" : Str)) = false := by decide) :
    PE X (.Call (.Name x p) (e :: es) [] pos) (tCB r t) := pe_callB hc hg hm hv ha hn hdb (star_plain hs) (any_plain hp)
theorem cTy (hc : CallR X (.type T) r) (hg : Gl X x) (hm : X.mg x = none) (hv : bootBuiltins x = some (.type T)) (ha : PA X (e :: es) t) (hs : plainE e = true := by rfl) (hp : es.all plainE = true := by rfl) (hn : x ≠ "__name__" := by decide) (hdb : (x == ("__debug__" : Str)) = false := by decide) :
    PE X (.Call (.Name x p) (e :: es) [] pos) (tCB r t) := pe_callTy hc hg hm hv ha hn hdb (star_plain hs) (any_plain hp)
theorem cFn {ps : List Str} {k k' : Nat} {sp : Sp} {E : XK} (F : FnS X.prog X.w X.K X.mg X.base x ps k' sp) (hr : Room k X.A) (hx : Passes (CX1 X.prog X.w) X E) (ha : PA X (e :: es) t) (hkk : k' ≤ k := by decide) (hg : Gl X x := by rfl)
    (hs : plainE e = true := by rfl) (hp : es.all plainE = true := by rfl) (hdb : (x == ("__debug__" : Str)) = false := by decide) : PE X (.Call (.Name x p) (e :: es) [] pos) (tCall sp [] E t) :=
  pe_fn F hr hx ha hkk hg hdb (star_plain hs) (any_plain hp)
theorem xFn {ps : List Str} {k k' : Nat} {sp : Sp} (O : Own X) (F : FnS X.prog X.w X.K X.mg X.base x ps k' sp) (hr : Room k X.A) (ha : PA X.nox (e :: es) t) (hkk : k' ≤ k := by decide) (hg : Gl X x := by rfl)
    (hs : plainE e = true := by rfl) (hp : es.all plainE = true := by rfl) (hdb : (x == ("__debug__" : Str)) = false := by decide) :
    PEx X (.Call (.Name x p) (e :: es) [] pos) (fun σ H Q E => t σ H fun vs H1 => sp (vs ++ []) H1 Q E) := pex_fn O F hr ha hkk hg hdb (star_plain hs) (any_plain hp)
theorem CompOk.alone {scope : Scope} {lv : Nat} {N' : List Str} (kind : scope.kind = .function) (h : ∀ y ∈ scope.names, y.2 ≠ .cell ∧ y.2 ≠ .free) (loc : ∀ y ∈ scope.names, y.2 = .local → scope.names.lookup y.1 = some .local) (len : N'.length = lv) : CompOk X scope lv [] N' :=
  ⟨kind, fun y hy => (h y hy).1, fun y hy hz => absurd hz (h y hy).2, loc, len, compcap0⟩
theorem op_neDK (K : PySem.W.Frag) (hu : X.A.units + 64 < cLine) (h : X.K = K := by rfl) : OpR X (compareOp .NotEq) (rNeD K) := h ▸ op_neD hu
end
noncomputable def Body (P : Program) (w : World) (K : PySem.W.Frag) (mg : Str → Option Value) (base : Heap) (N : List Str) (x : Str) (st : Stmt) (k : Nat) (sp : Sp) : Prop :=
  ∀ (f : Addr) (cdv : Value) (A : Around) (outer : List Env) (s : Shared) (H : Hp) (vs : List V) (Q : VK) (E : XK), Room k (A.deeper (envOfC x (defScope st) s.heap.objs.size f cdv)) → sp vs H Q E →
    ∃ t, PSs (cxOf (CX1 P w) P w K mg base N x (defScope st) f cdv A outer s H E) (defBody st) t ∧ t { nx := fun _ H' => Q .non H', rt := Q } (start N vs) H
theorem cx1_none {P : Program} {w : World} (H : Hp) (s : Shared) (e : Value) (s' : Shared) : CX1 P w [] H s (fun _ _ _ => False) e s' → False := fun ⟨_, _, _, _, _, _, _, _, _, _, h⟩ => h.elim
end L2
set_option Elab.async false
set_option linter.all false
set_option maxRecDepth 100000
set_option maxHeartbeats 2000000
namespace L2
open PySem PySem.Spec PyProof.Rows
section
variable {X : Cx} {pins : List (Addr × Obj)} {σ : List (Option V)} {H : Hp} {s : Shared} {h' : Heap}
theorem Inv.turnedL {t' : Nat} {fp : List Addr} (I : Inv X pins σ H s) (k : ∀ b o, b ∉ fp → s.heap.get? b = some o → h'.get? b = some o) (hf : ∀ b ∈ fp, FpOk X pins H b) : Inv X pins σ H { s with heap := h', toks := t' } := by
  have away : ∀ b u, H b = some u → b ∉ fp := fun b u e z => by rw [(hf b z).1] at e; cases e
  have hL : X.env.locals ∉ fp := fun z => (hf _ z).2.1 rfl
  refine I.step (g' := s.gens) (d' := s.drawn) (ch := fp) (fun b hb => ?_) (fun b o _ _ hc e _ => k b o hc e) (fun b o _ _ hc e _ => ⟨o.slots, k b o hc e⟩) (fun _ _ _ _ n => n)
    (fun b o hc e => ⟨o, k b o hc e⟩) (fun _ _ e => e) (fun _ _ _ e => e) (fun b ps e => ⟨#[], by rw [e]; simp⟩) (fun m hm => ?_) (fun b u e => ?_) I.bare
  · obtain ⟨_, h0, _, h1, h2, h3⟩ := hf b hb
    exact ⟨h1, h0, h2, h3⟩
  · obtain ⟨o, es, ep, ho, r⟩ := hm
    exact ⟨o, es, ep, k _ o hL ho, r⟩
  · refine (I.hok b u e).stay (fun c v hc q => k c v ?_ q) (fun _ q => q) fun _ _ q => q
    rcases hc with z | z
    · rw [z]; exact away b u e
    · exact away c _ z
end
inductive Knd | L | T
noncomputable def Knd.seq (k : Knd) (h : Heap) (a : Addr) (xs : Array Value) : Prop := match k with
  | .L => h.IsList a xs
  | .T => h.IsTuple a xs
noncomputable def Knd.it (k : Knd) (h : Heap) (j a : Addr) (n : Nat) : Prop := match k with
  | .L => h.IsListIter j a n
  | .T => h.IsTupleIter j a n
noncomputable def Knd.nm : Knd → String
  | .L => "list_iterator"
  | .T => "tuple_iterator"
noncomputable def Knd.sq (k : Knd) (K : PySem.W.Frag) (H : Hp) (a : Addr) (xs : List V) : Prop := match k with
  | .L => SqL K H a xs
  | .T => SqT K H a xs
theorem Knd.seq_at {k : Knd} {h h' : Heap} {a : Addr} {xs : Array Value} (x : k.seq h a xs) (e : ∀ o, h.get? a = some o → h'.get? a = some o) : k.seq h' a xs := by
  cases k <;> exact let ⟨o, ho, r⟩ := x; ⟨o, e _ ho, r⟩
theorem Knd.it_at {k : Knd} {h h' : Heap} {j a : Addr} {n : Nat} (x : k.it h j a n) (e : ∀ o, h.get? j = some o → h'.get? j = some o) : k.it h' j a n := by
  cases k <;> exact let ⟨o, ho, r⟩ := x; ⟨o, e _ ho, r⟩
theorem Knd.it_obj {k : Knd} {h : Heap} {j a : Addr} {n : Nat} (x : k.it h j a n) : ∃ o, h.get? j = some o ∧ o.cls = .type k.nm ∧ o.data = .fields #[.ref a, .int n 0] := by
  cases k <;> exact x
section
variable {prog : Program} {w : World} {A : Around} {E : Value → Shared → Prop} {s : Shared}
theorem nextOf_tup {j u : Addr} {n : Nat} {its : Array Value} {v : Value} {Q : Value → Shared → Prop} (hit : s.heap.IsTupleIter j u n) (ht : s.heap.IsTuple u its) (hx : its[n]? = some v)
    (hQ : ∀ h', h'.IsTupleIter j u (n + 1) → Heap.SameBut j s.heap h' → Q v { s with heap := h' }) : wpAny (model prog w) A (Builtin.SmallTypes.nextOf (.ref j)) Q E s := by
  obtain ⟨o, ho, hc, hd⟩ := id hit
  obtain ⟨ou, hou, _, nu, hdu⟩ := ht
  unfold Builtin.SmallTypes.nextOf; refine wpAny_bind (wpAny_callSpecial?_slot (name := Str.ofString "__next__") hit.typeIs F.slot_tuple_iterator_next (wpAny_call_entry F.slot_tuple_iterator_next hit.typeIs F.entry_tuple_iterator_next ?_ (F.args_tuple_iterator_next_1 _)))
  show wpAny _ _ (field (.ref j) 0 >>= _) _ _ s; refine wpAny_bind (wpAny_field ho hd (x := .ref u) rfl ?_)
  show wpAny _ _ (if (Value.ref u == Value.none) = true then _ else _) _ _ s; rw [if_neg (show ¬ ((Value.ref u == Value.none) = true) from Bool.false_ne_true)]
  show wpAny _ _ (field (.ref j) 1 >>= _) _ _ s; refine wpAny_bind (wpAny_field ho hd (x := .int n 0) rfl ?_)
  show wpAny _ _ (seqItems? (.ref u) >>= _) _ _ s; refine wpAny_bind (wpAny_seqItems hou hdu ?_); simp only [Int.toNat_natCast, hx]
  refine wpAny_bind (wpAny_setField ho hd (by simp) (wpAny_pure ⟨v, rfl, wpAny_pure (hQ _ ?_ (Heap.SameBut.update ..))⟩)); refine ⟨_, Heap.get?_update_self _ ho (Obj.isFreed_of_fields (Obj.data_mapFields hd _)), (Obj.cls_mapFields ..).trans hc, ?_⟩
  rw [Obj.data_mapFields hd]; simp [rawInt]
theorem nextOf_tup_end {j u : Addr} {n : Nat} {its : Array Value} {Q : Value → Shared → Prop} (hh : A.handled = none) (hit : s.heap.IsTupleIter j u n) (ht : s.heap.IsTuple u its) (hx : its[n]? = none)
    (hE : ∀ h' e, Heap.ExtBut j s.heap h' → (∃ o, h'.get? e = some o ∧ o.cls = .type "StopIteration") → E (.ref e) { s with heap := h' }) : wpAny (model prog w) A (Builtin.SmallTypes.nextOf (.ref j)) Q E s := by
  obtain ⟨o, ho, hc, hd⟩ := id hit
  obtain ⟨ou, hou, _, nu, hdu⟩ := ht
  unfold Builtin.SmallTypes.nextOf; refine wpAny_bind (wpAny_callSpecial?_slot (name := Str.ofString "__next__") hit.typeIs F.slot_tuple_iterator_next (wpAny_call_entry F.slot_tuple_iterator_next hit.typeIs F.entry_tuple_iterator_next ?_ (F.args_tuple_iterator_next_1 _)))
  show wpAny _ _ (field (.ref j) 0 >>= _) _ _ s; refine wpAny_bind (wpAny_field ho hd (x := .ref u) rfl ?_)
  show wpAny _ _ (if (Value.ref u == Value.none) = true then _ else _) _ _ s; rw [if_neg (show ¬ ((Value.ref u == Value.none) = true) from Bool.false_ne_true)]
  show wpAny _ _ (field (.ref j) 1 >>= _) _ _ s; refine wpAny_bind (wpAny_field ho hd (x := .int n 0) rfl ?_)
  show wpAny _ _ (seqItems? (.ref u) >>= _) _ _ s; refine wpAny_bind (wpAny_seqItems hou hdu ?_); simp only [Int.toNat_natCast, hx]
  refine wpAny_bind (wpAny_rule (wpAny_bind (wpAny_setField ho hd (by simp) ?_))); show wpAny _ _ (newExc (.type "StopIteration") [] >>= _) _ _ _
  refine wpAny_bind ?_; simp only [newExc, newTuple]; refine wpAny_bind (wpAny_newObj_type ?_ (by size_fits)); refine wpAny_bind (m := firstArgMember _ _) (wpAny_of_eq (a := Value.none) (by first | rfl | (simp only [firstArgMember]; rfl)) ?_)
  refine wpAny_newObj_type ?_ (by size_fits); simp only [raiseNew]; refine wpAny_bind (wpAny_handled ?_)
  first | rw [show A.in1.handled = none from hh]; refine wpAny_bind (wpAny_pure (wpAny_throw ?_)) | rw [hh]; refine wpAny_bind (wpAny_pure (wpAny_throw ?_))
  exact hE _ _ (((Heap.SameBut.update ..).extBut.push _).push _) ⟨_, Heap.get?_push_size _ rfl, rfl⟩
theorem Knd.next {k : Knd} {j u : Addr} {n : Nat} {its : Array Value} {v : Value} {Q : Value → Shared → Prop} (hit : k.it s.heap j u n) (ht : k.seq s.heap u its) (hx : its[n]? = some v)
    (hQ : ∀ h', k.it h' j u (n + 1) → Heap.SameBut j s.heap h' → Q v { s with heap := h' }) : wpAny (model prog w) A (Builtin.SmallTypes.nextOf (.ref j)) Q E s := by
  cases k with
  | L => exact wpAny_nextOf_list_item hit ht hx hQ
  | T => exact nextOf_tup hit ht hx hQ
theorem Knd.done {k : Knd} {j u : Addr} {n : Nat} {its : Array Value} {Q : Value → Shared → Prop} (hh : A.handled = none) (hit : k.it s.heap j u n) (ht : k.seq s.heap u its) (hx : its[n]? = none)
    (hE : ∀ h' e, Heap.ExtBut j s.heap h' → (∃ o, h'.get? e = some o ∧ o.cls = .type "StopIteration") → E (.ref e) { s with heap := h' }) : wpAny (model prog w) A (Builtin.SmallTypes.nextOf (.ref j)) Q E s := by
  cases k with
  | L => exact wpAny_nextOf_list_end hh hit ht hx hE
  | T => exact nextOf_tup_end hh hit ht hx hE
structure ZAt (h : Heap) (k1 k2 : Knd) (n a1 a2 : Addr) (i : Nat) (f0 : Value) : Prop where
  z : IsZip h (n + 4) (n + 2) (n + 3) f0
  ti : IsPair h (n + 2) (.ref n) (.ref (n + 1))
  to : ∃ a b, IsPair h (n + 3) a b
  i1 : k1.it h n a1 i
  i2 : k2.it h (n + 1) a2 i
noncomputable def zfp (n : Addr) : List Addr := [n + 4, n + 2, n + 3, n, n + 1]
theorem zip_item {k1 k2 : Knd} {n a1 a2 : Addr} {i : Nat} {xs ys : Array Value} {x y : Value} {Q : Option Value → Shared → Prop} (Z : ZAt s.heap k1 k2 n a1 a2 i .none) (d1 : a1 ∉ zfp n) (d2 : a2 ∉ zfp n) (h1 : k1.seq s.heap a1 xs) (h2 : k2.seq s.heap a2 ys) (hx : xs[i]? = some x) (hy : ys[i]? = some y)
    (hQ : ∀ h', ZAt h' k1 k2 n a1 a2 (i + 1) (rawInt s.heap.objs.size) → IsPair h' s.heap.objs.size x y → (∀ c o, c ∉ zfp n → s.heap.get? c = some o → h'.get? c = some o) → Q (some (.ref s.heap.objs.size)) { s with heap := h' }) :
    wpAny (model prog w) A (pyNext (.ref (n + 4))) Q E s := by
  obtain ⟨hz, hTI, ⟨a, b, hTO⟩, g1, g2⟩ := Z
  have nz : n ≠ n + 4 := Nat.ne_of_lt (Nat.lt_add_of_pos_right (by decide))
  have n1z : n + 1 ≠ n + 4 := by intro e; have := Nat.add_left_cancel e; exact absurd this (by decide)
  have n2z : n + 2 ≠ n + 4 := by intro e; have := Nat.add_left_cancel e; exact absurd this (by decide)
  have n3z : n + 3 ≠ n + 4 := by intro e; have := Nat.add_left_cancel e; exact absurd this (by decide)
  have n3n : n + 3 ≠ n := Nat.ne_of_gt (Nat.lt_add_of_pos_right (by decide))
  have n31 : n + 3 ≠ n + 1 := by intro e; have := Nat.add_left_cancel e; exact absurd this (by decide)
  have n32 : n + 3 ≠ n + 2 := by intro e; have := Nat.add_left_cancel e; exact absurd this (by decide)
  have n2n : n + 2 ≠ n := Nat.ne_of_gt (Nat.lt_add_of_pos_right (by decide))
  have n21 : n + 2 ≠ n + 1 := by intro e; have := Nat.add_left_cancel e; exact absurd this (by decide)
  have n1n : n + 1 ≠ n := Nat.ne_of_gt (Nat.lt_add_of_pos_right (by decide))
  have m1 : ∀ c, c ∈ zfp n → a1 ≠ c := fun c hc e => d1 (by rw [e]; exact hc)
  have m2 : ∀ c, c ∈ zfp n → a2 ≠ c := fun c hc e => d2 (by rw [e]; exact hc)
  have p4 : n + 4 ∈ zfp n := .head _
  have p3 : n + 3 ∈ zfp n := .tail _ (.tail _ (.head _))
  have p0 : n ∈ zfp n := .tail _ (.tail _ (.tail _ (.head _)))
  have p1 : n + 1 ∈ zfp n := .tail _ (.tail _ (.tail _ (.tail _ (.head _))))
  have ty : s.TypeIs (.ref (n + 4)) "zip" := ⟨_, hz, rfl⟩
  unfold pyNext
  refine wpAny_bind (wpAny_attempt (wpAny_callSpecial?_slot (name := Str.ofString "__next__") ty F.slot_zip_next (wpAny_call_entry F.slot_zip_next ty F.entry_zip_next ?_ (F.args_zip_next_1 _))))
  show wpAny _ _ (field (.ref (n + 4)) 2 >>= _) _ _ _; refine wpAny_bind (wpAny_field hz rfl (x := .bool false) rfl ?_)
  show wpAny _ _ (field (.ref (n + 4)) 3 >>= _) _ _ _; refine wpAny_bind (wpAny_field hz rfl (x := .ref (n + 2)) rfl ?_)
  refine wpAny_bind (wpAny_seqItems hTI rfl ?_); show wpAny _ _ (Builtin.SmallTypes.ownedTupleIsFree (.ref (n + 4)) >>= _) _ _ _
  refine wpAny_bind ?_; unfold Builtin.SmallTypes.ownedTupleIsFree; refine wpAny_bind (wpAny_field hz rfl (x := .none) rfl (wpAny_pure ?_)); simp only [if_true]
  refine wpAny_bind (wpAny_rule ?_); refine wpAny_bind (wpAny_field hz rfl (x := .ref (n + 3)) rfl ?_)
  refine wpAny_bind (wpAny_setField_rec hz (by simp) fun q1 hz1 s1 => ?_)
  replace hz1 : IsZip q1 (n + 4) (n + 2) (n + 3) .ellipsis := hz1
  refine wpAny_bind ?_; simp only [List.zipIdx_cons, List.zipIdx_nil, List.forIn_cons, List.forIn_nil]
  refine wpAny_bind (wpAny_bind (wpAny_onRaise ?_)); show wpAny _ _ (Builtin.SmallTypes.nextOf (.ref n) >>= _) _ _ _
  refine wpAny_bind (Knd.next (Knd.it_at (k := k1) g1 fun o e => s1.extBut _ _ nz e) (Knd.seq_at (k := k1) h1 fun o e => s1.extBut _ _ (m1 _ p4) e) hx fun q2 f2 s2 => wpAny_pure ?_)
  have hT2 : IsPair q2 (n + 3) a b := s2.extBut _ _ n3n (s1.extBut _ _ n3z hTO)
  refine wpAny_bind (wpAny_seqItems hT2 rfl ?_); refine wpAny_bind (wpAny_updateSeq_pair hT2 fun q3 hT3 s3 => ?_)
  replace hT3 : IsPair q3 (n + 3) x b := hT3
  refine wpAny_bind (wpAny_letGo (wpAny_pure ?_))
  refine wpAny_bind (wpAny_bind (wpAny_onRaise ?_)); show wpAny _ _ (Builtin.SmallTypes.nextOf (.ref (n + 1)) >>= _) _ _ _
  refine wpAny_bind (Knd.next (Knd.it_at (k := k2) g2 fun o e => s3.extBut _ _ n31.symm (s2.extBut _ _ n1n (s1.extBut _ _ n1z e))) (Knd.seq_at (k := k2) h2 fun o e => s3.extBut _ _ (m2 _ p3) (s2.extBut _ _ (m2 _ p0) (s1.extBut _ _ (m2 _ p4) e))) hy fun q4 f4 s4 => wpAny_pure ?_)
  have hT4 : IsPair q4 (n + 3) x b := s4.extBut _ _ n31 hT3
  refine wpAny_bind (wpAny_seqItems hT4 rfl ?_); refine wpAny_bind (wpAny_updateSeq_pair hT4 fun q5 hT5 s5 => ?_)
  replace hT5 : IsPair q5 (n + 3) x y := hT5
  refine wpAny_bind (wpAny_letGo (wpAny_pure (wpAny_pure ?_))); refine wpAny_bind (wpAny_seqItems hT5 rfl ?_); refine wpAny_bind (wpAny_newTuple ?_)
  have hsz : q5.objs.size = s.heap.objs.size := by rw [s5.1, s4.1, s3.1, s2.1, s1.1]
  have hz5 : IsZip q5 (n + 4) (n + 2) (n + 3) .ellipsis := s5.extBut _ _ n3z.symm (s4.extBut _ _ n1z.symm (s3.extBut _ _ n3z.symm (s2.extBut _ _ nz.symm hz1)))
  have keep5 : ∀ c o, c ∉ zfp n → s.heap.get? c = some o → q5.get? c = some o := fun c o hc e =>
    s5.extBut _ _ (fun z => hc (by rw [z]; exact p3)) (s4.extBut _ _ (fun z => hc (by rw [z]; exact p1)) (s3.extBut _ _ (fun z => hc (by rw [z]; exact p3)) (s2.extBut _ _ (fun z => hc (by rw [z]; exact p0)) (s1.extBut _ _ (fun z => hc (by rw [z]; exact p4)) e))))
  have ti5 : IsPair q5 (n + 2) (.ref n) (.ref (n + 1)) := s5.extBut _ _ n32.symm (s4.extBut _ _ n21 (s3.extBut _ _ n32.symm (s2.extBut _ _ n2n (s1.extBut _ _ n2z hTI))))
  have g15 : k1.it q5 n a1 (i + 1) := Knd.it_at (k := k1) f2 fun o e => s5.extBut _ _ n3n.symm (s4.extBut _ _ n1n.symm (s3.extBut _ _ n3n.symm e))
  have g25 : k2.it q5 (n + 1) a2 (i + 1) := Knd.it_at (k := k2) f4 fun o e => s5.extBut _ _ n31.symm e
  have zlt : n + 4 < q5.objs.size := Heap.lt_size hz5
  show wpAny _ _ (Builtin.SmallTypes.ownedTupleHandOut (.ref (n + 4)) (.ref q5.objs.size) >>= _) _ _ _
  refine wpAny_bind ?_; unfold Builtin.SmallTypes.ownedTupleHandOut
  have hz6 : IsZip (q5.push { cls := .type "tuple", data := .seq #[x, y] }) (n + 4) (n + 2) (n + 3) .ellipsis := Heap.get?_push_of_some _ hz5
  refine wpAny_bind (wpAny_setField_rec hz6 (by simp) fun q7 hz7 s7 => ?_)
  replace hz7 : IsZip q7 (n + 4) (n + 2) (n + 3) (rawInt q5.objs.size) := hz7
  refine wpAny_setField_rec hz7 (by simp) fun q8 hz8 s8 => ?_
  replace hz8 : IsZip q8 (n + 4) (n + 2) (n + 3) (rawInt q5.objs.size) := hz8
  have up : ∀ c o, c ≠ n + 4 → q5.get? c = some o → q8.get? c = some o := fun c o hc e => s8.extBut _ _ hc (s7.extBut _ _ hc (Heap.get?_push_of_some _ e))
  have hT8 : IsPair q8 q5.objs.size x y := s8.extBut _ _ (Nat.ne_of_gt zlt) (s7.extBut _ _ (Nat.ne_of_gt zlt) (Heap.get?_push_size _ rfl))
  rw [hsz] at hz8 hT8
  refine wpAny_pure ⟨_, rfl, wpAny_pure ?_⟩
  show Q (some (.ref q5.objs.size)) _; rw [hsz]
  exact hQ q8 ⟨hz8, up _ _ n2z ti5, ⟨_, _, up _ _ n3z hT5⟩, Knd.it_at (k := k1) g15 fun o e => up _ o nz e, Knd.it_at (k := k2) g25 fun o e => up _ o n1z e⟩ hT8 fun c o hc e => up c o (fun z => hc (by rw [z]; exact p4)) (keep5 c o hc e)
theorem zip_end {k1 k2 : Knd} {n a1 a2 : Addr} {i : Nat} {xs ys : Array Value} {Q : Option Value → Shared → Prop} (hh : A.handled = none) (Z : ZAt s.heap k1 k2 n a1 a2 i .none) (d1 : a1 ∉ zfp n) (d2 : a2 ∉ zfp n) (h1 : k1.seq s.heap a1 xs) (h2 : k2.seq s.heap a2 ys) (hend : xs[i]? = none ∨ ys[i]? = none)
    (hQ : ∀ h', (∀ c o, c ∉ zfp n → s.heap.get? c = some o → h'.get? c = some o) → Q none { s with heap := h' }) : wpAny (model prog w) A (pyNext (.ref (n + 4))) Q E s := by
  obtain ⟨hz, hTI, ⟨a, b, hTO⟩, g1, g2⟩ := Z
  have nz : n ≠ n + 4 := Nat.ne_of_lt (Nat.lt_add_of_pos_right (by decide))
  have n1z : n + 1 ≠ n + 4 := by intro e; have := Nat.add_left_cancel e; exact absurd this (by decide)
  have n3z : n + 3 ≠ n + 4 := by intro e; have := Nat.add_left_cancel e; exact absurd this (by decide)
  have n3n : n + 3 ≠ n := Nat.ne_of_gt (Nat.lt_add_of_pos_right (by decide))
  have n31 : n + 3 ≠ n + 1 := by intro e; have := Nat.add_left_cancel e; exact absurd this (by decide)
  have n1n : n + 1 ≠ n := Nat.ne_of_gt (Nat.lt_add_of_pos_right (by decide))
  have m1 : ∀ c, c ∈ zfp n → a1 ≠ c := fun c hc e => d1 (by rw [e]; exact hc)
  have m2 : ∀ c, c ∈ zfp n → a2 ≠ c := fun c hc e => d2 (by rw [e]; exact hc)
  have p4 : n + 4 ∈ zfp n := .head _
  have p3 : n + 3 ∈ zfp n := .tail _ (.tail _ (.head _))
  have p0 : n ∈ zfp n := .tail _ (.tail _ (.tail _ (.head _)))
  have p1 : n + 1 ∈ zfp n := .tail _ (.tail _ (.tail _ (.tail _ (.head _))))
  have ty : s.TypeIs (.ref (n + 4)) "zip" := ⟨_, hz, rfl⟩
  unfold pyNext
  refine wpAny_bind (wpAny_attempt (wpAny_callSpecial?_slot (name := Str.ofString "__next__") ty F.slot_zip_next (wpAny_call_entry F.slot_zip_next ty F.entry_zip_next ?_ (F.args_zip_next_1 _))))
  have fin : ∀ h' e, (∀ c o, c ∉ zfp n → s.heap.get? c = some o → h'.get? c = some o) → (∃ o, h'.get? e = some o ∧ o.cls = .type "StopIteration") →
      wpAny (model prog w) A (isInstance (.ref e) (.type "StopIteration") >>= fun b => if b = true then pure none else throw (.ref e)) Q E { s with heap := h' } := fun h' e hk ⟨o, ho, hc⟩ =>
    wpAny_bind (wpAny_isInstance (T := "StopIteration") (b := true) ⟨o, ho, hc⟩ isSubtype_stop (wpAny_pure (hQ _ hk)))
  show wpAny _ _ (field (.ref (n + 4)) 2 >>= _) _ _ _; refine wpAny_bind (wpAny_field hz rfl (x := .bool false) rfl ?_)
  show wpAny _ _ (field (.ref (n + 4)) 3 >>= _) _ _ _; refine wpAny_bind (wpAny_field hz rfl (x := .ref (n + 2)) rfl ?_)
  refine wpAny_bind (wpAny_seqItems hTI rfl ?_); show wpAny _ _ (Builtin.SmallTypes.ownedTupleIsFree (.ref (n + 4)) >>= _) _ _ _
  refine wpAny_bind ?_; unfold Builtin.SmallTypes.ownedTupleIsFree; refine wpAny_bind (wpAny_field hz rfl (x := .none) rfl (wpAny_pure ?_)); simp only [if_true]
  refine wpAny_bind (wpAny_rule ?_); refine wpAny_bind (wpAny_field hz rfl (x := .ref (n + 3)) rfl ?_)
  refine wpAny_bind (wpAny_setField_rec hz (by simp) fun q1 hz1 s1 => ?_)
  replace hz1 : IsZip q1 (n + 4) (n + 2) (n + 3) .ellipsis := hz1
  refine wpAny_bind ?_; simp only [List.zipIdx_cons, List.zipIdx_nil, List.forIn_cons, List.forIn_nil]
  refine wpAny_bind (wpAny_bind (wpAny_onRaise ?_)); show wpAny _ _ (Builtin.SmallTypes.nextOf (.ref n) >>= _) _ _ _
  have G1 := Knd.it_at (k := k1) g1 fun o e => s1.extBut _ _ nz e
  have S1 := Knd.seq_at (k := k1) h1 fun o e => s1.extBut _ _ (m1 _ p4) e
  cases hx : xs[i]? with
  | none =>
    refine wpAny_bind (Knd.done hh G1 S1 hx fun q2 e s2 he => ?_)
    obtain ⟨oe, hoe, hce⟩ := he
    have hz2 : IsZip q2 (n + 4) (n + 2) (n + 3) .ellipsis := s2 _ _ nz.symm hz1
    have hez : e ≠ n + 4 := fun z => by subst z; rw [hz2] at hoe; cases hoe; simp at hce
    refine wpAny_setField_rec hz2 (by simp) fun q3 _ s3 => fin q3 e (fun c o hc z => s3.extBut _ _ (fun z => hc (by rw [z]; exact p4)) (s2 _ _ (fun z => hc (by rw [z]; exact p0)) (s1.extBut _ _ (fun z => hc (by rw [z]; exact p4)) z))) ⟨oe, s3.extBut _ _ hez hoe, hce⟩
  | some x =>
    have hy : ys[i]? = none := by rcases hend with h | h; rw [hx] at h; cases h; exact h
    refine wpAny_bind (Knd.next G1 S1 hx fun q2 f2 s2 => wpAny_pure ?_)
    have hT2 : IsPair q2 (n + 3) a b := s2.extBut _ _ n3n (s1.extBut _ _ n3z hTO)
    refine wpAny_bind (wpAny_seqItems hT2 rfl ?_); refine wpAny_bind (wpAny_updateSeq_pair hT2 fun q3 hT3 s3 => ?_)
    refine wpAny_bind (wpAny_letGo (wpAny_pure ?_))
    refine wpAny_bind (wpAny_bind (wpAny_onRaise ?_)); show wpAny _ _ (Builtin.SmallTypes.nextOf (.ref (n + 1)) >>= _) _ _ _
    refine wpAny_bind (Knd.done hh (Knd.it_at (k := k2) g2 fun o e => s3.extBut _ _ n31.symm (s2.extBut _ _ n1n (s1.extBut _ _ n1z e))) (Knd.seq_at (k := k2) h2 fun o e => s3.extBut _ _ (m2 _ p3) (s2.extBut _ _ (m2 _ p0) (s1.extBut _ _ (m2 _ p4) e))) hy fun q4 e s4 he => ?_)
    obtain ⟨oe, hoe, hce⟩ := he
    have hz4 : IsZip q4 (n + 4) (n + 2) (n + 3) .ellipsis := s4 _ _ n1z.symm (s3.extBut _ _ n3z.symm (s2.extBut _ _ nz.symm hz1))
    have hez : e ≠ n + 4 := fun z => by subst z; rw [hz4] at hoe; cases hoe; simp at hce
    refine wpAny_setField_rec hz4 (by simp) fun q5 _ s5 => fin q5 e (fun c o hc z => s5.extBut _ _ (fun z => hc (by rw [z]; exact p4)) (s4 _ _ (fun z => hc (by rw [z]; exact p1)) (s3.extBut _ _ (fun z => hc (by rw [z]; exact p3)) (s2.extBut _ _ (fun z => hc (by rw [z]; exact p0)) (s1.extBut _ _ (fun z => hc (by rw [z]; exact p4)) z))))) ⟨oe, s5.extBut _ _ hez hoe, hce⟩
end
noncomputable abbrev zh1 (h : Heap) (k1 : Knd) (a1 : Addr) : Heap := h.push { cls := .type k1.nm, data := .fields #[.ref a1, .int 0 0] }
noncomputable abbrev zh2 (h : Heap) (k1 k2 : Knd) (a1 a2 : Addr) : Heap := (zh1 h k1 a1).push { cls := .type k2.nm, data := .fields #[.ref a2, .int 0 0] }
noncomputable abbrev zh3 (h : Heap) (k1 k2 : Knd) (a1 a2 : Addr) : Heap := (zh2 h k1 k2 a1 a2).push { cls := .type "tuple", data := .seq #[.ref h.objs.size, .ref (zh1 h k1 a1).objs.size] }
noncomputable abbrev zh4 (h : Heap) (k1 k2 : Knd) (a1 a2 : Addr) : Heap := (zh3 h k1 k2 a1 a2).push { cls := .type "tuple", data := .seq #[.none, .none] }
noncomputable abbrev zh5 (h : Heap) (k1 k2 : Knd) (a1 a2 : Addr) : Heap := (zh4 h k1 k2 a1 a2).push { cls := .type "zip", data := .fields #[.none, .bool false, .bool false, .ref (zh2 h k1 k2 a1 a2).objs.size, .ref (zh3 h k1 k2 a1 a2).objs.size] }
theorem zip_made (k1 k2 : Knd) (a1 a2 : Addr) (xs ys : Array Value) :
    Meets (Builtin.«zip.__new__» ⟨[.type "zip", .ref a1, .ref a2], []⟩) (fun _ R s => k1.seq s.heap a1 xs ∧ k2.seq s.heap a2 ys ∧
      R (.ok (.ret (.ref (zh4 s.heap k1 k2 a1 a2).objs.size))) { s with heap := zh5 s.heap k1 k2 a1 a2 }) :=
  .of_wp fun prog w A R s h => by
    obtain ⟨hp, g, d, tk, os⟩ := s; obtain ⟨e1, e2, h⟩ := h; have sub := sub_zip
    cases k1 <;> cases k2
    · have L1 : Heap.IsList (Shared.heap ⟨hp, g, d, tk, os⟩) a1 xs := e1
      have L2 : Heap.IsList (Shared.heap ⟨hp.push { cls := .type "list_iterator", data := .fields #[.ref a1, .int 0 0] }, g, d, tk, os⟩) a2 ys := Heap.IsList.push e2 _
      wp_walk using wpAny_pyIter_list L1, wpAny_pyIter_list L2
      exact ⟨_, rfl, h⟩
    · have L1 : Heap.IsList (Shared.heap ⟨hp, g, d, tk, os⟩) a1 xs := e1
      have L2 : Heap.IsTuple (Shared.heap ⟨hp.push { cls := .type "list_iterator", data := .fields #[.ref a1, .int 0 0] }, g, d, tk, os⟩) a2 ys := Heap.IsTuple.push e2 _
      wp_walk using wpAny_pyIter_list L1, wpAny_pyIter_tuple L2
      exact ⟨_, rfl, h⟩
    · have L1 : Heap.IsTuple (Shared.heap ⟨hp, g, d, tk, os⟩) a1 xs := e1
      have L2 : Heap.IsList (Shared.heap ⟨hp.push { cls := .type "tuple_iterator", data := .fields #[.ref a1, .int 0 0] }, g, d, tk, os⟩) a2 ys := Heap.IsList.push e2 _
      wp_walk using wpAny_pyIter_tuple L1, wpAny_pyIter_list L2
      exact ⟨_, rfl, h⟩
    · have L1 : Heap.IsTuple (Shared.heap ⟨hp, g, d, tk, os⟩) a1 xs := e1
      have L2 : Heap.IsTuple (Shared.heap ⟨hp.push { cls := .type "tuple_iterator", data := .fields #[.ref a1, .int 0 0] }, g, d, tk, os⟩) a2 ys := Heap.IsTuple.push e2 _
      wp_walk using wpAny_pyIter_tuple L1, wpAny_pyIter_tuple L2
      exact ⟨_, rfl, h⟩
theorem call_zip {prog : Program} {w : World} {A : Around} {E : Value → Shared → Prop} {s : Shared} {k1 k2 : Knd} {a1 a2 : Addr} {xs ys : Array Value} {Q : Value → Shared → Prop} (h1 : k1.seq s.heap a1 xs) (h2 : k2.seq s.heap a2 ys)
    (h : ∀ h', ZAt h' k1 k2 s.heap.objs.size a1 a2 0 .none → (∀ c o, s.heap.get? c = some o → h'.get? c = some o) → Q (.ref (s.heap.objs.size + 4)) { s with heap := h' }) :
    wpAny (model prog w) A (call (.type "zip") [.ref a1, .ref a2]) Q E s := by
  refine callType_new F.called_zip (by decide) (F.typeCall_zip_2 _ _) (F.newCall_zip_2 _ _) (fun obj => F.args_object_init_3 obj _ _) F.entry_zip_new (zip_made k1 k2 a1 a2 xs ys) ⟨h1, h2, ?_⟩
  have z1 : (zh1 s.heap k1 a1).objs.size = s.heap.objs.size + 1 := Heap.size_push ..
  have z2 : (zh2 s.heap k1 k2 a1 a2).objs.size = s.heap.objs.size + 2 := by rw [Heap.size_push, z1]
  have z3 : (zh3 s.heap k1 k2 a1 a2).objs.size = s.heap.objs.size + 3 := by rw [Heap.size_push, z2]
  have z4 : (zh4 s.heap k1 k2 a1 a2).objs.size = s.heap.objs.size + 4 := by rw [Heap.size_push, z3]
  have g5 : (zh5 s.heap k1 k2 a1 a2).get? (zh4 s.heap k1 k2 a1 a2).objs.size = some _ := Heap.get?_push_size _ rfl
  have g4 : (zh5 s.heap k1 k2 a1 a2).get? (zh3 s.heap k1 k2 a1 a2).objs.size = some _ := Heap.get?_push_of_some _ (Heap.get?_push_size _ rfl)
  have g3 : (zh5 s.heap k1 k2 a1 a2).get? (zh2 s.heap k1 k2 a1 a2).objs.size = some _ := Heap.get?_push_of_some _ (Heap.get?_push_of_some _ (Heap.get?_push_size _ rfl))
  have g2 : (zh5 s.heap k1 k2 a1 a2).get? (zh1 s.heap k1 a1).objs.size = some _ := Heap.get?_push_of_some _ (Heap.get?_push_of_some _ (Heap.get?_push_of_some _ (Heap.get?_push_size _ rfl)))
  have g1 : (zh5 s.heap k1 k2 a1 a2).get? s.heap.objs.size = some _ := Heap.get?_push_of_some _ (Heap.get?_push_of_some _ (Heap.get?_push_of_some _ (Heap.get?_push_of_some _ (Heap.get?_push_size _ rfl))))
  show _ ∧ _
  rw [z2, z3, z4] at g5
  rw [z1, z2] at g3
  rw [z3] at g4; rw [z1] at g2; rw [z4]
  refine ⟨⟨_, g5, rfl⟩, h _ ⟨g5, g3, ⟨_, _, g4⟩, ?_, ?_⟩ fun c o x => Heap.get?_push_of_some _ (Heap.get?_push_of_some _ (Heap.get?_push_of_some _ (Heap.get?_push_of_some _ (Heap.get?_push_of_some _ x))))⟩
  · cases k1 <;> exact ⟨_, g1, rfl, rfl⟩
  · cases k2 <;> exact ⟨_, g2, rfl, rfl⟩
end L2
set_option Elab.async false
set_option linter.all false
set_option maxRecDepth 100000
set_option maxHeartbeats 2000000
namespace L2
open PySem PySem.Spec PyProof.Rows
section
variable {X : Cx} {pins : List (Addr × Obj)} {σ : St} {H : Hp} {s : Shared}
theorem fp_ne {k : Knd} {a b : Addr} {xs : List V} (I : Inv X pins σ H s) (f : FpOk X pins H b) (h : k.sq X.K H a xs) : a ≠ b := by
  rintro rfl
  have kb : ∀ o, X.K.lookup a = some o → False := fun o e => by
    have e' := I.ok.mod.kin a o e
    rcases f.2.2.2.1 with h | h
    · exact I.ok.noex a o e' h
    · exact absurd (Nat.lt_of_lt_of_le (Heap.lt_size e') (Nat.le_trans I.ok.bsz h)) (Nat.lt_irrefl _)
  cases k
  · rcases h with (h | ⟨o, h⟩) | ⟨o, its, n, hk, r⟩
    · have h' := f.1; rw [h] at h'; cases h'
    · have h' := f.1; rw [h] at h'; cases h'
    · exact kb o hk
  · rcases h with (h | ⟨o, h⟩) | ⟨o, its, n, hk, r⟩
    · have h' := f.1; rw [h] at h'; cases h'
    · have h' := f.1; rw [h] at h'; cases h'
    · exact kb o hk
theorem Inv.knd {k : Knd} {a : Addr} {xs : List V} (I : Inv X pins σ H s) (h : k.sq X.K H a xs) : ∃ its : List Value, Vals xs its ∧ k.seq s.heap a its.toArray := by
  cases k
  · obtain ⟨its, r, p, _⟩ := I.list h
    exact ⟨its, r, p.isList⟩
  · obtain ⟨its, r, p, _⟩ := I.tuple h
    exact ⟨its, r, p⟩
theorem Inv.knd_inj {k : Knd} {a : Addr} {xs ys : List V} (I : Inv X pins σ H s) (h : k.sq X.K H a xs) (h' : k.sq X.K H a ys) : xs = ys := by
  cases k
  · exact I.list_inj h h'
  · exact I.tuple_inj h h'
end
noncomputable def Itz (K : PySem.W.Frag) (k1 k2 : Knd) (a1 a2 : Addr) : It :=
  ⟨fun i H => ∃ xs ys x y, k1.sq K H a1 xs ∧ k2.sq K H a2 ys ∧ xs[i]? = some x ∧ ys[i]? = some y,
   fun i H x H' => ∃ p u v, x = .ref p ∧ H p = none ∧ H' = upd H p (.tup [u, v]) ∧ (∀ xs, k1.sq K H a1 xs → xs[i]? = some u) ∧ ∀ ys, k2.sq K H a2 ys → ys[i]? = some v,
   fun i H => ∃ xs ys, k1.sq K H a1 xs ∧ k2.sq K H a2 ys ∧ (xs.length ≤ i ∨ ys.length ≤ i)⟩
theorem turn_zip {P : Program} {w : World} {K : PySem.W.Frag} {els : List Expr} {x1 : Nat} {tpos : Pos} (k1 k2 : Knd) (n a1 a2 : Addr) :
    Turn P w K (.Tuple els x1 tpos) (Itz K k1 k2 a1 a2) (zfp n) (n + 4) (fun i h => ZAt h k1 k2 n a1 a2 i .none) where
  mem := .head _
  obj := fun i h Z b hb => by
    obtain ⟨hz, hTI, ⟨a, b', hTO⟩, g1, g2⟩ := Z
    obtain ⟨o1, e1, _, d1⟩ := Knd.it_obj (k := k1) g1
    obtain ⟨o2, e2, _, d2⟩ := Knd.it_obj (k := k2) g2
    unfold zfp at hb
    simp only [List.mem_cons, List.not_mem_nil, or_false] at hb
    rcases hb with rfl | rfl | rfl | rfl | rfl
    · exact ⟨_, hz, fun v z => by cases z⟩
    · exact ⟨_, hTI, fun v z => by cases z⟩
    · exact ⟨_, hTO, fun v z => by cases z⟩
    · exact ⟨_, e1, fun v z => by rw [d1] at z; cases z⟩
    · exact ⟨_, e2, fun v z => by rw [d2] at z; cases z⟩
  keep := fun i h h' Z k => by
    obtain ⟨hz, hTI, ⟨a, b', hTO⟩, g1, g2⟩ := Z
    have p0 : n ∈ zfp n := .tail _ (.tail _ (.tail _ (.head _)))
    have p1 : n + 1 ∈ zfp n := .tail _ (.tail _ (.tail _ (.tail _ (.head _))))
    exact ⟨k _ (.head _) _ hz, k _ (.tail _ (.head _)) _ hTI, ⟨a, b', k _ (.tail _ (.tail _ (.head _))) _ hTO⟩, Knd.it_at (k := k1) g1 fun o e => k _ p0 o e, Knd.it_at (k := k2) g2 fun o e => k _ p1 o e⟩
  item := by
    intro X hP hw hK hc i pins s σ H E I hf Z hg
    subst hP hw hK
    obtain ⟨xs, ys, x, y, q1, q2, hx, hy⟩ := hg
    obtain ⟨its, r1, e1⟩ := I.knd q1
    obtain ⟨jts, r2, e2⟩ := I.knd q2
    obtain ⟨u, hu, ru⟩ := r1.get hx
    obtain ⟨v, hv, rv⟩ := r2.get hy
    have fl : ∀ b ∈ zfp n, b < s.heap.objs.size := fun b hb => by
      obtain ⟨hz, hTI, ⟨a, b', hTO⟩, g1, g2⟩ := id Z
      obtain ⟨o1, e1, _⟩ := Knd.it_obj (k := k1) g1
      obtain ⟨o2, e2, _⟩ := Knd.it_obj (k := k2) g2
      unfold zfp at hb
      simp only [List.mem_cons, List.not_mem_nil, or_false] at hb
      rcases hb with rfl | rfl | rfl | rfl | rfl
      · exact Heap.lt_size hz
      · exact Heap.lt_size hTI
      · exact Heap.lt_size hTO
      · exact Heap.lt_size e1
      · exact Heap.lt_size e2
    refine zip_item Z (fun hb => fp_ne I (hf _ hb) q1 rfl) (fun hb => fp_ne I (hf _ hb) q2 rfl) e1 e2 (x := u) (y := v) (by simpa using hu) (by simpa using hv) fun h' Z' hT hk => ?_
    refine ⟨.ref s.heap.objs.size, rfl, wpAny_letOwnedTupleGo_zip (s := { s with heap := h' }) Z'.z fun h'' z'' sb => ?_⟩
    have I1 : Inv X pins σ (upd H s.heap.objs.size (.tup [x, y])) { s with heap := s.heap.push { cls := .type "tuple", data := .seq #[u, v] }, toks := s.toks } :=
      I.laid (fun b o e => Heap.get?_push_of_some _ e) (Nat.le_refl _) ⟨by show 2 ≤ sizeLine; decide, [u, v], .cons ru (.cons rv .nil), ⟨_, Heap.get?_push_size _ rfl, rfl, _, rfl⟩⟩
    have none' : ∀ b ∈ zfp n, upd H s.heap.objs.size (.tup [x, y]) b = none := fun b hb => by
      rw [upd_ne (Nat.ne_of_lt (fl b hb))]; exact (hf b hb).1
    have I2 : Inv X pins σ (upd H s.heap.objs.size (.tup [x, y])) { s with heap := h'' } := Inv.turnedL (s := { s with heap := s.heap.push { cls := .type "tuple", data := .seq #[u, v] }, toks := s.toks }) (fp := zfp n) (t' := s.toks) I1 (fun b o hb e => by
      have hb4 : b ≠ n + 4 := fun z => hb (by rw [z]; exact .head _)
      refine sb.extBut _ _ hb4 ?_
      rcases Heap.get?_push_cases e with ⟨z, z2⟩ | e
      · rw [z, z2]; exact hT
      · exact hk b o hb e) fun b hb => ⟨none' b hb, (hf b hb).2⟩
    obtain ⟨_, zt, ⟨a, b', zo⟩, g1, g2⟩ := Z'
    have ne : ∀ k : Nat, k < 4 → n + k ≠ n + 4 := fun k hk e => absurd (Nat.add_left_cancel e) (Nat.ne_of_lt hk)
    exact ⟨.ref s.heap.objs.size, _, I2, rfl, ⟨_, x, y, rfl, I.fresh, rfl, fun zs hz => by rw [I.knd_inj hz q1]; exact hx, fun zs hz => by rw [I.knd_inj hz q2]; exact hy⟩,
      ⟨z'', sb.extBut _ _ (ne 2 (by decide)) zt, ⟨a, b', sb.extBut _ _ (ne 3 (by decide)) zo⟩, Knd.it_at (k := k1) g1 fun o e => sb.extBut _ _ (ne 0 (by decide)) e, Knd.it_at (k := k2) g2 fun o e => sb.extBut _ _ (ne 1 (by decide)) e⟩, none'⟩
  done := by
    intro X hP hw hK hc i pins s σ H E I hf Z hg
    subst hP hw hK
    obtain ⟨xs, ys, q1, q2, hx⟩ := hg
    obtain ⟨its, r1, e1⟩ := I.knd q1
    obtain ⟨jts, r2, e2⟩ := I.knd q2
    have l1 := r1.length
    have l2 := r2.length
    refine zip_end (I.ok.hd hc) Z (fun hb => fp_ne I (hf _ hb) q1 rfl) (fun hb => fp_ne I (hf _ hb) q2 rfl) e1 e2 (hx.imp (fun h => by simp; omega) (fun h => by simp; omega)) fun h' hk => ⟨rfl, I.turnedL (t' := s.toks) hk hf⟩
  self := fun _ _ _ _ _ Z h => wpAny_pyIter_zip Z.z h
section
variable {X : Cx} {els : List Expr} {x1 : Nat} {tpos : Pos}
noncomputable def iZip (k1 k2 : Knd) (K : PySem.W.Frag) (ta : TA) : TI := fun σ H R => ta σ H fun vs H1 => ∃ a1 a2, vs = [.ref a1, .ref a2] ∧ (∃ xs, k1.sq K H1 a1 xs) ∧ (∃ ys, k2.sq K H1 a2 ys) ∧ R (Itz K k1 k2 a1 a2) H1
theorem pi_zip (k1 k2 : Knd) {a b : Expr} {ta : TA} {p pos : Pos} (hg : Gl X "zip") (hm : X.mg "zip" = none) (ha : PA X [a, b] ta) (hs : plainE a = true := by rfl) (hs2 : plainE b = true := by rfl) :
    PI X (.Tuple els x1 tpos) (.Call (.Name "zip" p) [a, b] [] pos) (iZip k1 k2 X.K ta) := by
  intro pins s σ H R I h
  refine wpAny_Call_Name_kw (ld_blt I hg hm PyProof.Rows.Boot.«zip» ?_)
  refine PyProof.Rows.callWith_type1 (thn (ha pos pins s σ H _ I h) fun us s1 h1 => ?_) (star_plain hs) (any_plain (by rw [List.all_cons, hs2]; rfl))
  obtain ⟨vs, H1, I1, r, a1, a2, rfl, ⟨xs, q1⟩, ⟨ys, q2⟩, q⟩ := h1
  obtain ⟨u, v, rfl, ru, rv⟩ := vals2 r
  cases ru; cases rv
  obtain ⟨its, r1, e1⟩ := I1.knd q1
  obtain ⟨jts, r2, e2⟩ := I1.knd q2
  refine call_zip e1 e2 fun h' Z hk => wpAny_pyIter_zip Z.z ?_
  refine ⟨s1.heap.objs.size + 4, zfp s1.heap.objs.size, _, _, H1, rfl, I1.kept (t' := s1.toks) hk, turn_zip k1 k2 _ a1 a2, Z, fun b hb => ?_, q⟩
  have hle : s1.heap.objs.size ≤ b := by
    unfold zfp at hb
    simp only [List.mem_cons, List.not_mem_nil, or_false] at hb
    rcases hb with rfl | rfl | rfl | rfl | rfl
    · exact Nat.le_add_right _ _
    · exact Nat.le_add_right _ _
    · exact Nat.le_add_right _ _
    · exact Nat.le_refl _
    · exact Nat.le_add_right _ _
  exact I1.fpOk hle (I1.hok.fresh hle)
end
end L2
set_option Elab.async false
set_option linter.all false
set_option maxRecDepth 100000
set_option maxHeartbeats 2000000
namespace L2
open PySem PySem.Spec PyProof.Rows
theorem Same.new {H : Hp} {p : Addr} {o : HO} (h : H p = none) : Same H (L2.upd H p o) := fun b u e => by
  rw [upd_ne (ne_of_none e h)]; exact e
theorem Same.upd {H H1 : Hp} {p : Addr} {o : HO} (s : Same H H1) (h : H p = none) : Same H (L2.upd H1 p o) := fun b u e => by
  rw [upd_ne (ne_of_none e h)]; exact s b u e
theorem Same.knd {k : Knd} {K : PySem.W.Frag} {H H' : Hp} {a : Addr} {xs : List V} (S : Same H H') (h : k.sq K H a xs) : k.sq K H' a xs := by
  cases k <;> rcases h with (h | ⟨o, h⟩) | h <;> first | exact .inl (.inl (S _ _ h)) | exact .inl (.inr ⟨o, S _ _ h⟩) | exact .inr h
section
variable {X : Cx}
theorem CompOk.caps {scope sc : Scope} {lv : Nat} {caps : List Nat} {N' : List Str} (kind : scope.kind = .function) (h : ∀ y ∈ scope.names, y.2 ≠ .cell) (hf : ∀ y ∈ scope.names, y.2 = .free → sc.names.lookup y.1 = some .cell ∨ sc.names.lookup y.1 = some .free)
    (loc : ∀ y ∈ scope.names, y.2 = .local → scope.names.lookup y.1 = some .local) (e : X.env.scope = sc) (len : N'.length = lv + caps.length)
    (cap : ∀ (p : Nat) (j : Nat), caps[p]? = some j → ∃ x, N'[lv + p]? = some x ∧ X.N[j]? = some x ∧ scope.names.lookup x = some .free) : CompOk X scope lv caps N' :=
  ⟨kind, h, fun y hy hz => by have := hf y hy hz; rw [← e] at this; exact this, loc, len, cap⟩
end
section
variable {K : PySem.W.Frag} {g : TG} {te : TE} {σ0 : St} {H1 : Hp} {Q : VK}
theorem comp_each {J : It} (n : Nat) (hl : n < sizeLine) (f : Nat → V) (go : ∀ i H', i < n → Same H1 H' → J.go i H') (stop : ∀ H', Same H1 H' → J.stop n H')
    (step : ∀ i x (H' H'' : Hp) (Q' : VK), i < n → Same H1 H' → J.yld i H' x H'' → (∀ H2, Same H' H2 → Q' (f i) H2) → g x σ0 H'' fun σ2 H2 => te σ2 H2 Q')
    (fin : ∀ D H', H1 D = none → Same H1 H' → H' D = some (.lst ((List.range n).map f)) → Q (.ref D) H') : compW J g te σ0 Q H1 := by
  intro D hD
  refine ⟨fun i m ys H' => i ≤ n ∧ m = n - i ∧ ys = (List.range i).map f ∧ Same H1 H' ∧ H' D = some (.lst ys), ⟨_, Nat.zero_le _, rfl, rfl, Same.new hD, upd_same⟩, ?_⟩
  rintro i m ys H' ⟨hi, rfl, rfl, S, e⟩
  refine ⟨e, by rw [List.length_map, List.length_range]; omega, ?_⟩
  by_cases hlt : i < n
  · refine .inr ⟨go i H' hlt S, fun x H'' hy => step i x H' H'' _ hlt S hy fun H2 S2 => ⟨S2 _ _ e, n - (i + 1), by omega, hlt, rfl, ?_, (S.trans S2).upd hD, upd_same⟩⟩
    rw [List.range_succ, List.map_append]; rfl
  · have ei : i = n := by omega
    subst ei
    exact .inl ⟨stop H' S, fin D H' hD S e⟩
theorem comp_seq {k : Knd} {J : It} {a : Addr} {xs : List V} (hJ : J = match k with | .L => Itl K a | .T => Itt K a) (hq : k.sq K H1 a xs) (hl : xs.length < sizeLine) (f : V → V)
    (step : ∀ x ∈ xs, ∀ (H' : Hp) (Q' : VK), Same H1 H' → (∀ H2, Same H' H2 → Q' (f x) H2) → g x σ0 H' fun σ2 H2 => te σ2 H2 Q')
    (fin : ∀ D H', H1 D = none → Same H1 H' → H' D = some (.lst (xs.map f)) → Q (.ref D) H') : compW J g te σ0 Q H1 := by
  have hm : (List.range xs.length).map (fun i => f (xs.getD i .non)) = xs.map f := by
    apply List.ext_getElem?
    intro i
    simp only [List.getElem?_map, List.getElem?_range, List.getD_eq_getElem?_getD]
    by_cases h : i < xs.length
    · rw [List.getElem?_eq_getElem h, List.getElem?_range h]; simp [h]
    · rw [List.getElem?_eq_none (show (List.range xs.length).length ≤ i by rw [List.length_range]; omega), List.getElem?_eq_none (show xs.length ≤ i by omega)]; rfl
  have at' : ∀ {i : Nat} (h : i < xs.length), xs[i]? = some (xs.getD i .non) := fun {i} h => by rw [List.getD_eq_getElem?_getD, List.getElem?_eq_getElem h]; rfl
  subst hJ
  cases k
  · refine comp_each xs.length hl (fun i => f (xs.getD i .non)) (fun i H' h S => ⟨xs, _, S.knd (k := .L) hq, at' h⟩) (fun H' S => ⟨xs, S.knd (k := .L) hq, Nat.le_refl _⟩) (fun i x H' H'' Q' h S hy q => ?_) (fun D H' hD S e => fin D H' hD S (by rw [← hm]; exact e))
    obtain ⟨rfl, hx⟩ := hy
    have hx := hx xs (S.knd (k := .L) hq)
    have e : xs.getD i .non = x := by rw [List.getD_eq_getElem?_getD, hx]; rfl
    rw [e] at q
    exact step x (List.mem_of_getElem? hx) _ Q' S q
  · refine comp_each xs.length hl (fun i => f (xs.getD i .non)) (fun i H' h S => ⟨xs, _, S.knd (k := .T) hq, at' h⟩) (fun H' S => ⟨xs, S.knd (k := .T) hq, Nat.le_refl _⟩) (fun i x H' H'' Q' h S hy q => ?_) (fun D H' hD S e => fin D H' hD S (by rw [← hm]; exact e))
    obtain ⟨rfl, hx⟩ := hy
    have hx := hx xs (S.knd (k := .T) hq)
    have e : xs.getD i .non = x := by rw [List.getD_eq_getElem?_getD, hx]; rfl
    rw [e] at q
    exact step x (List.mem_of_getElem? hx) _ Q' S q
theorem comp_L {a : Addr} {xs : List V} (hq : SqL K H1 a xs) (hl : xs.length < sizeLine) (f : V → V)
    (step : ∀ x ∈ xs, ∀ (H' : Hp) (Q' : VK), Same H1 H' → (∀ H2, Same H' H2 → Q' (f x) H2) → g x σ0 H' fun σ2 H2 => te σ2 H2 Q')
    (fin : ∀ D H', H1 D = none → Same H1 H' → H' D = some (.lst (xs.map f)) → Q (.ref D) H') : compW (Itl K a) g te σ0 Q H1 := comp_seq (k := .L) rfl hq hl f step fin
end
end L2
namespace RF
noncomputable abbrev Cop (a b : Int) : Prop := Int.gcd a b = 1
theorem Cop.symm {a b : Int} (h : Cop a b) : Cop b a := by unfold Cop; rw [Int.gcd_comm]; exact h
structure GoodBase (kept spare : List Int) : Prop where
  k1 : 1 ≤ kept.length
  k6 : kept.length ≤ 6
  s4 : spare.length ≤ 4
  rng : ∀ d ∈ kept ++ spare, 2 ≤ d ∧ d ≤ 1000000
  cop : (kept ++ spare).Pairwise Cop
  lt : ∀ k ∈ kept, ∀ s ∈ spare, k < s
theorem not_cop_self {d : Int} (h : 2 ≤ d) : ¬ Cop d d := by
  unfold Cop
  rw [Int.gcd_self]
  omega
theorem rise_of {l : List Int} (h2 : ∀ d ∈ l, 2 ≤ d) (hc : l.Pairwise Cop) (hs : l.Pairwise (· ≤ ·)) : l.Pairwise (· < ·) := by
  have := hc.and hs
  refine this.imp_of_mem ?_
  intro a b ha hb ⟨h1, h2'⟩
  have : a ≠ b := by
    rintro rfl
    exact not_cop_self (h2 a ha) h1
  omega
end RF
namespace RF
end RF
set_option Elab.async false
set_option linter.all false
set_option maxRecDepth 100000
set_option maxHeartbeats 4000000
namespace RF
open PySem L2
theorem atI_ints {ns : List Int} {i : Int} (h0 : 0 ≤ i) (h1 : i < ns.length) : atI (ns.map V.int) i = some (.int (ns.getD i.toNat 0)) := by
  have e : i = (i.toNat : Int) := by omega
  have hl : i.toNat < ns.length := by omega
  generalize i.toNat = k at e hl
  subst e
  refine atI_nat ?_
  rw [List.getElem?_map, List.getD_eq_getElem?_getD, List.getElem?_eq_getElem hl]
  rfl
theorem cut_to {ns : List Int} {k : Int} (h : 0 ≤ k) : cutV (ns.map V.int) none (some k) = (ns.take k.toNat).map V.int := by
  have e : k = (k.toNat : Int) := by omega
  unfold cutV
  rw [HT.sIx_none, e, HT.sIx_nat, List.drop_zero, Nat.sub_zero, Int.toNat_natCast, List.map_take]
  rcases Nat.le_total k.toNat (ns.map V.int).length with hl | hl
  · rw [Nat.min_eq_left hl]
  · rw [Nat.min_eq_right hl, List.take_length, List.take_of_length_le hl]
theorem cut_from {ns : List Int} {k : Int} (h : 0 ≤ k) : cutV (ns.map V.int) (some k) none = (ns.drop k.toNat).map V.int := by
  have e : k = (k.toNat : Int) := by omega
  unfold cutV
  rw [HT.sIx_none, e, HT.sIx_nat, Int.toNat_natCast, List.map_drop]
  rcases Nat.le_total k.toNat (ns.map V.int).length with hl | hl
  · rw [Nat.min_eq_left hl]
    exact List.take_of_length_le (by rw [List.length_drop]; exact Nat.le_refl _)
  · rw [Nat.min_eq_right hl, List.drop_length, List.drop_of_length_le hl]
    simp
structure BaseAt (H : Hp) (t : Addr) (kept spare : List Int) : Prop where
  ex : ∃ t1 t2, H t = some (.tup [.ref t1, .ref t2]) ∧ H t1 = some (.tup (kept.map V.int)) ∧ H t2 = some (.tup (spare.map V.int))
inductive isp_base_by (a : V) (H : Hp) (Q : VK) (E : XK) : Prop
  | mk (n : Int) (h0 : a = .int n) (q : ∀ kept spare t H', GoodBase kept spare → Same H H' → H t = none → BaseAt H' t kept spare → Q (.ref t) H') : isp_base_by a H Q E
noncomputable def sp_base_by : Sp := Sp1 (isp_base_by)
inductive isp_mixed (a b : V) (H : Hp) (Q : VK) (E : XK) : Prop
  | mk (n k : Int) (h0 : a = .int n) (h1 : b = .int k) (h2 : 0 ≤ k) (h3 : k ≤ 1000) (q : ∀ m : Int, 0 ≤ m → m < 998244353 → Q (.int m) H) : isp_mixed a b H Q E
noncomputable def sp_mixed : Sp := Sp2 (isp_mixed)
inductive isp_whole (a : V) (H : Hp) (Q : VK) (E : XK) : Prop
  | mk (n : Int) (h0 : a = .int n) (q : Q (.bl true) H) : isp_whole a H Q E
noncomputable def sp_whole : Sp := Sp1 (isp_whole)
theorem kit_ii (K : PySem.W.Frag) : PySem.W.kitOne K (.type "int") (.type "int") = some true := by kernel_rfl
theorem kit_ib (K : PySem.W.Frag) : PySem.W.kitOne K (.type "int") (.type "bool") = some false := by kernel_rfl
section
variable {K : PySem.W.Frag}
end
noncomputable def Bas (H : Hp) (a : V) (kept spare : List Int) : Prop := (∃ t, a = V.ref t ∧ BaseAt H t kept spare) ∧ GoodBase kept spare
theorem BaseAt.up {H H' : Hp} {t : Addr} {kept spare : List Int} (B : BaseAt H t kept spare) (S : Same H H') : BaseAt H' t kept spare := by
  obtain ⟨t1, t2, a, b, c⟩ := B.ex
  exact ⟨t1, t2, S _ _ a, S _ _ b, S _ _ c⟩
theorem Bas.up {H H' : Hp} {a : V} {kept spare : List Int} (B : Bas H a kept spare) (S : Same H H') : Bas H' a kept spare := by
  obtain ⟨⟨t, e, b⟩, g⟩ := B
  exact ⟨⟨t, e, b.up S⟩, g⟩
theorem GoodBase.ne {kept spare : List Int} (g : GoodBase kept spare) : kept.map V.int ≠ [] := fun z => by
  have := congrArg List.length z
  have := g.k1
  simp only [List.length_map, List.length_nil] at *
  omega
theorem GoodBase.room {kept spare : List Int} (g : GoodBase kept spare) : (kept.map V.int).length + (spare.map V.int).length ≤ sizeLine := by
  have h1 := g.k6
  have h2 := g.s4
  rw [List.length_map, List.length_map]
  exact Nat.le_trans (show _ ≤ 10 by omega) (by decide)
theorem ints_at {ns : List Int} {i : Nat} {x : V} (h : (ns.map V.int)[i]? = some x) : ∃ d, ns[i]? = some d ∧ x = .int d := by
  rw [List.getElem?_map] at h
  cases hi : ns[i]? with
  | none => rw [hi] at h; cases h
  | some d => rw [hi] at h; cases h; exact ⟨d, rfl, rfl⟩
inductive isp_divs (a : V) (H : Hp) (Q : VK) (E : XK) : Prop
  | mk (kept : List Int) (spare : List Int) (h0 : Bas H a kept spare) (q : ∀ p H', Same H H' → H' p = some (.tup ((kept ++ spare).map V.int)) → Q (.ref p) H') : isp_divs a H Q E
noncomputable def sp_divs : Sp := Sp1 (isp_divs)
inductive isp_cell_at (K : PySem.W.Frag) (a b : V) (H : Hp) (Q : VK) (E : XK) : Prop
  | mk (l : Addr) (ns : List Int) (i : Int) (h0 : a = .ref l) (h1 : b = .int i) (h2 : SqL K H l (ns.map V.int)) (h3 : 0 ≤ i) (q : ∀ m : Int, Q (.int m) H) : isp_cell_at K a b H Q E
noncomputable def sp_cell_at (K : PySem.W.Frag) : Sp := Sp2 (isp_cell_at K)
theorem kit_ll (K : PySem.W.Frag) : PySem.W.kitOne K (.type "list") (.type "list") = some true := by kernel_rfl
inductive isp_numbers (a b : V) (H : Hp) (Q : VK) (E : XK) : Prop
  | mk (l1 l2 : Addr) (ns : List Int) (h0 : a = .ref l1) (h1 : b = .ref l2) (h2 : H l1 = some (.lst (ns.map V.int))) (h3 : H l2 = some (.lst (ns.map V.int))) (h4 : ns.length ≤ 100) (q : ∀ H', Same H H' → Q (.bl true) H') : isp_numbers a b H Q E
noncomputable def sp_numbers : Sp := Sp2 (isp_numbers)
inductive isp_law (K : PySem.W.Frag) (a : V) (H : Hp) (Q : VK) (E : XK) : Prop
  | mk (l : Addr) (ns : List Int) (h0 : a = .ref l) (h1 : SqL K H l (ns.map V.int)) (h2 : ns.length ≤ 63) (q : ∀ H', Q (.bl true) H') : isp_law K a H Q E
noncomputable def sp_law (K : PySem.W.Frag) : Sp := Sp1 (isp_law K)
theorem md0 (a : Int) {n : Int} (h : 0 < n) : 0 ≤ a % n := Int.emod_nonneg _ (Int.ne_of_gt h)
theorem md1 (a : Int) {n : Int} (h : 0 < n) : a % n < n := Int.emod_lt_of_pos _ h
theorem atI_mod {ns : List Int} (a : Int) {m : Int} (hm : (ns.length : Int) = m) (h : 0 < m) : atI (ns.map V.int) (a % m) = some (.int (ns.getD (a % m).toNat 0)) := atI_ints (md0 a h) (by rw [hm]; exact md1 a h)
end RF
set_option Elab.async false
set_option linter.all false
set_option maxRecDepth 100000
set_option maxHeartbeats 2000000
namespace L2
open PySem PySem.Spec PyProof.Rows
theorem for_zip {K : PySem.W.Frag} {k1 k2 : Knd} {a1 a2 : Addr} {xs ys : List V} {g : TG} {tb : TS} {D : Ends} {σ : St} {H : Hp} (Pv : Nat → St → Hp → Prop) (h0 : Pv 0 σ H) (hl : ∀ i σ H, Pv i σ H → k1.sq K H a1 xs ∧ k2.sq K H a2 ys)
    (hs : ∀ i x y p σ H, xs[i]? = some x → ys[i]? = some y → Pv i σ H → H p = none → g (.ref p) σ (upd H p (.tup [x, y])) fun σ2 H2 => tb { D with nx := Pv (i + 1), ct := Pv (i + 1), bk := D.nx } σ2 H2)
    (hd : ∀ σ H, Pv (min xs.length ys.length) σ H → D.nx σ H) :
    ∃ W : Nat → Nat → St → Hp → Prop, (∃ m, W 0 m σ H) ∧ ∀ i m σ H, W i m σ H →
      ((Itz K k1 k2 a1 a2).stop i H ∧ D.nx σ H) ∨ ((Itz K k1 k2 a1 a2).go i H ∧ ∃ N : St → Hp → Prop, (∀ σ' H', N σ' H' → ∃ m', m' < m ∧ W (i + 1) m' σ' H') ∧ ∀ x H', (Itz K k1 k2 a1 a2).yld i H x H' → g x σ H' fun σ2 H2 => tb { D with nx := N, ct := N, bk := D.nx } σ2 H2) := by
  refine ⟨fun i m σ H => m = min xs.length ys.length - i ∧ i ≤ min xs.length ys.length ∧ Pv i σ H, ⟨_, rfl, Nat.zero_le _, h0⟩, ?_⟩
  rintro i m σ H ⟨rfl, hi, p⟩
  obtain ⟨q1, q2⟩ := hl i σ H p
  by_cases hlt : i < min xs.length ys.length
  · have l1 : i < xs.length := Nat.lt_of_lt_of_le hlt (Nat.min_le_left ..)
    have l2 : i < ys.length := Nat.lt_of_lt_of_le hlt (Nat.min_le_right ..)
    refine .inr ⟨⟨xs, ys, _, _, q1, q2, List.getElem?_eq_getElem l1, List.getElem?_eq_getElem l2⟩, Pv (i + 1), fun σ' H' n => ⟨_, by omega, rfl, hlt, n⟩, fun x H' hy => ?_⟩
    obtain ⟨a, u, v, rfl, ha, rfl, hu, hv⟩ := hy
    exact hs i u v a σ H (hu xs q1) (hv ys q2) p ha
  · have e : i = min xs.length ys.length := by omega
    subst e
    refine .inl ⟨⟨xs, ys, q1, q2, ?_⟩, hd σ H p⟩
    rcases Nat.le_total xs.length ys.length with h | h
    · exact .inl (by rw [Nat.min_eq_left h]; exact Nat.le_refl _)
    · exact .inr (by rw [Nat.min_eq_right h]; exact Nat.le_refl _)
section
variable {X : Cx}
end
end L2
set_option linter.all false
namespace RF
structure Valid (ds fig : List Int) : Prop where
  len : fig.length = ds.length
  rng : ∀ (j : Nat) (d r : Int), ds[j]? = some d → fig[j]? = some r → 0 ≤ r ∧ r < d
open PySem L2
theorem shaped_ints (a : List Int) : SeqAt.shaped (.list (a.map .int)) = true := by
  simp [SeqAt.shaped, PyData.canLay0, PyData.canLayAll0, PyData.depth, PyData.depthAll, PySem.W.ke_canLayAll0, PySem.W.ke_depthAll]
theorem rdL {K : PySem.W.Frag} {H : Hp} {l : Addr} {xs : List Int} (h : H l = some (.lst (xs.map V.int))) : RdD K H (.ref l) (.list (xs.map .int)) := .lst (SqL.of h) (.ints xs)
inductive isp_refuse (cB : Addr) (a b : V) (H : Hp) (Q : VK) (E : XK) : Prop
  | mk (kept spare : List Int) (l : Addr) (ns : List Int) (h0 : Bas H a kept spare) (h1 : b = .ref l) (h2 : H l = some (.lst (ns.map V.int))) (q : (Valid (kept ++ spare) ns → ∀ H', Same H H' → Q .non H') ∧ (¬ Valid (kept ++ spare) ns → ∀ H', Same H H' → E (.ref cB) none H')) : isp_refuse cB a b H Q E
noncomputable def sp_refuse (cB : Addr) : Sp := Sp2 (isp_refuse cB)
theorem cut_last {ns : List Int} (h : 1 ≤ ns.length) : cutV (ns.map V.int) none (some (-1)) = (ns.take (ns.length - 1)).map V.int := by
  unfold cutV
  rw [HT.sIx_none, List.length_map]
  have e : HT.sIx ns.length ns.length (some (-1)) = ns.length - 1 := by
    show (if (-1 : Int) < 0 then (-1 + (ns.length : Int)).toNat else min (-1 : Int).toNat ns.length) = _
    rw [if_pos (by decide)]; omega
  rw [e, List.drop_zero, Nat.sub_zero, List.map_take]
end RF
set_option linter.all false
namespace RF
open PySem L2
end RF
set_option Elab.async false
set_option linter.all false
set_option maxRecDepth 100000
set_option maxHeartbeats 2000000
namespace L2
open PySem PySem.Spec PyProof.Rows
section
variable {X : Cx} {els : List Expr} {x1 : Nat} {tpos : Pos}
end
end L2
set_option Elab.async false
set_option linter.all false
set_option maxRecDepth 100000
set_option maxHeartbeats 2000000
namespace L2
open PySem PySem.Spec PyProof.Rows
section
variable {M : Model} {A : Around} {E : Value → Shared → Prop} {s : Shared}
theorem mark_set {base : Heap} {l : List Env} {e : Addr} {cls a0 fl : Value} {fo : Option Addr} {Q : Unit → Shared → Prop} (hkb : base.StaysIn s.heap) (hl : s.heap.FunFrames base l) (ht : s.heap.TracedAtW base e cls a0 fl)
    (h : ∀ h' fl', base.StaysIn h' → h'.FunFrames base l → h'.TracedAtW base e cls a0 fl' → s.heap.UpToSlots h' → Q () { s with heap := h' }) : wpAny M A (setFlight (.ref e) fo) Q E s := by
  obtain ⟨oe, vs, T, oT, ts, he, hcls, hd, h1, hnT, hTe, hT, hdT, h3⟩ := ht
  have z3 : 3 < ts.size := (Array.getElem?_eq_some_iff.mp h3).1
  have ot : ∀ b, b ≠ T → (s.heap.update T (Obj.mapFields (·.setIfInBounds 3 (fo.elim Value.none fun f => rawInt f)))).get? b = s.heap.get? b := fun b hb => Heap.get?_update_other _ _ (Ne.symm hb)
  have nr : ∀ b o, s.heap.get? b = some o → (∀ vs, o.data ≠ .fields vs) → b ≠ T := fun b o hb hnf q => by rw [q, hT] at hb; cases hb; exact hnf ts hdT
  unfold setFlight; refine wpAny_bind (wpAny_field he hd h1 ?_); rw [if_pos (show (Value.ref T != Value.none) = true from by simp)]
  refine wpAny_setField hT hdT z3 (h _ (fo.elim Value.none fun f => rawInt f) (fun b o hbo => (ot b fun q => by rw [q, hnT] at hbo; cases hbo).trans (hkb b o hbo)) (hl.of_keeps fun b o hb hnf => ⟨o, (ot b (nr b o hb hnf)).trans hb, rfl⟩) ?_ fun b o hb hnf => ⟨o.slots, (ot b (nr b o hb hnf)).trans hb⟩)
  exact ⟨oe, vs, T, _, _, (ot e (Ne.symm hTe)).trans he, hcls, hd, h1, hnT, hTe, Heap.get?_update_self _ hT (Obj.isFreed_of_fields (Obj.data_mapFields hdT _)), Obj.data_mapFields hdT _, by simp [z3]⟩
theorem leaves_any {base : Heap} {env : Env} {outer : List Env} {L e : Addr} {cls a0 fl : Value} {Q : Unit → Shared → Prop} (hfr : A.frames = some (env :: outer)) (hf : env.frame = some L) (hkb : base.StaysIn s.heap) (hen : base.get? e = none)
    (hl : s.heap.FunFrames base (env :: outer)) (ht : s.heap.TracedAtW base e cls a0 fl) (hQ : ∀ h', base.StaysIn h' → h'.TracedW base e cls a0 → s.heap.UpToSlots h' → Q () { s with heap := h' }) : wpAny M A (leaving env (.ref e)) Q E s := by
  obtain ⟨oe, vs, T, oT, ts, he, ⟨hcls, h0⟩, hd, h1, hnT, hTe, hT, hdT, h3⟩ := id ht
  unfold leaving
  by_cases hq : (fl == rawInt L) = true
  · refine wpAny_bind ?_
    unfold noteFrame; simp only [hf]
    refine wpAny_bind (wpAny_field he hd h1 ?_); rw [if_pos (show (Value.ref T != Value.none) = true from by simp)]
    refine wpAny_bind (wpAny_field hT hdT h3 ?_); rw [if_pos hq]
    exact wpAny_pure (wpAny_setFlight_noneW hkb hl ht fun h' k1 k2 k3 k4 => hQ h' k1 k3 fun b o hb hn => ⟨o.slots, k4 b o hb hn⟩)
  · subst hcls
    unfold noteFrame; simp only [hf]
    refine wpAny_bind (wpAny_bind (wpAny_field he hd h1 ?_)); rw [if_pos (show (Value.ref T != Value.none) = true from by simp)]
    refine wpAny_bind (wpAny_field hT hdT h3 ?_); rw [if_neg hq]
    refine wpAny_bind (wpAny_setField hT hdT (Array.getElem?_eq_some_iff.mp h3).1 ?_)
    have ot : ∀ b, b ≠ T → (s.heap.update T (Obj.mapFields (·.setIfInBounds 3 Value.none))).get? b = s.heap.get? b := fun b hb => Heap.get?_update_other _ _ (Ne.symm hb)
    have nr : ∀ b o, s.heap.get? b = some o → (∀ vs, o.data ≠ .fields vs) → b ≠ T := fun b o hb hnf q => by rw [q, hT] at hb; cases hb; exact hnf ts hdT
    exact wpAny_newEntryW hfr (hl.of_keeps fun b o hb hnf => ⟨o, (ot b (nr b o hb hnf)).trans hb, rfl⟩) hf ((ot e (Ne.symm hTe)).trans he) (fun b o hbo => (ot b fun q => by rw [q, hnT] at hbo; cases hbo).trans (hkb b o hbo)) hen hd (Array.getElem?_eq_some_iff.mp h1).1 h0
      fun h' ⟨x1, x2, x3, x4⟩ => hQ h' x1 x3 fun b o hb hnf => x4 b o ((ot b (nr b o hb hnf)).trans hb) hnf
end
section
variable {P : Program} {w : World} {K : PySem.W.Frag} {mg : Str → Option Value} {base : Heap} {N : List Str} {qual : Str} {scope : Scope} {f : Addr} {cd : Value} {A : Around} {outer : List Env} {s s1 : Shared} {H H1 : Hp} {E : XK}
  {pins : List (Addr × Obj)} {σ : St} {hid : List Addr} {h' : Heap} {ea : Addr} {C a0 : Value} {d : Option Addr}
theorem left_cx2 (I : Inv (cxOf (CX1 P w) P w K mg base N qual scope f cd A outer s H E) pins σ H1 s1) (hf : ∀ b ∈ frs (cxOf (CX1 P w) P w K mg base N qual scope f cd A outer s H E).stack, b ∈ hid)
    (hh : ∀ b ∈ hid, b ∈ frs (cxOf (CX1 P w) P w K mg base N qual scope f cd A outer s H E).stack ∨ (s.heap.get? b = none ∧ H1 b = none))
    (st : (PySem.W.hideAll s1.heap hid).StaysIn h') (sm : ∀ b ∈ frs (cxOf (CX1 P w) P w K mg base N qual scope f cd A outer s H E).stack, ∀ o, s1.heap.get? b = some o → (∀ vs, o.data ≠ .fields vs) → ∃ sl, h'.get? b = some { o with slots := sl })
    (tr : h'.TracedW (PySem.W.hideAll s1.heap hid) ea C a0) (hea : ea ∈ hid ∨ s1.heap.get? ea = none) (dx : ∀ o, h'.get? ea = some o → Dx o d) (e : E C d H1) : CX1 P w outer H s E (.ref ea) { s1 with heap := h' } := by
  have old : ∀ b o, s.heap.get? b = some o → ∃ o', s1.heap.get? b = some o' := fun b o q => I.base.there b o q (fun z => nomatch z)
  have frS := fun b hb => (I.stack.mem (b := b) hb).2
  have keepB : ∀ b o, b ∉ hid → s1.heap.get? b = some o → h'.get? b = some o := fun b o hb q => st b o (PySem.W.hideAll_get hid q hb)
  have trk : ∀ b o, H1 b = some o → b ∉ hid := fun b o q hb => by
    rcases hh b hb with z | ⟨_, z⟩
    · rw [I.stkFree b z] at q; cases q
    · rw [z] at q; cases q
  have fr2 : ∀ b o, s.heap.get? b = some o → b ∈ hid → b ∈ frs outer := fun b o q hb => by
    rcases hh b hb with z | ⟨z, _⟩
    · rcases List.mem_cons.mp (I.stkSub b z) with y | y
      · exact absurd (Nat.lt_of_lt_of_le (Heap.lt_size q) I.ok.above) (by rw [y]; exact Nat.lt_irrefl _)
      · exact y
    · rw [z] at q; cases q
  have inStk : ∀ b, b ∈ frs outer → b ∈ frs (cxOf (CX1 P w) P w K mg base N qual scope f cd A outer s H E).stack := fun b hb => List.mem_cons_of_mem _ hb
  obtain ⟨oe, vs, T, oT, ts, he, ⟨hc, h0⟩, hd, h1, hnT, hne, hT, hdT, h3⟩ := tr
  have gone : ∀ b o', (PySem.W.hideAll s1.heap hid).get? b = none → s1.heap.get? b = some o' → b ∈ hid := fun b o' z q => by
    by_cases hb : b ∈ hid
    · exact hb
    · rw [PySem.W.hideAll_get hid q hb] at z; cases z
  have fields : ∀ b o ws, h'.get? b = some o → o.data = .fields ws → b ∈ frs (cxOf (CX1 P w) P w K mg base N qual scope f cd A outer s H E).stack → False := fun b o ws q d hb => by
    obtain ⟨ob, g1, g2⟩ := frS b hb
    obtain ⟨sl, g3⟩ := sm b hb ob g1 g2
    rw [q] at g3; cases g3; exact g2 ws d
  have hT0 : s.heap.get? T = none := by
    cases q : s.heap.get? T with
    | none => rfl
    | some o =>
      obtain ⟨o', q'⟩ := old T o q
      exact (fields T oT ts hT hdT (inStk _ (fr2 T o q (gone T o' hnT q')))).elim
  have hT1 : H1 T = none := by
    cases q : H1 T with
    | none => rfl
    | some o =>
      obtain ⟨o', q'⟩ := (I.hok T o q).isThere
      exact absurd (gone T o' hnT q') (trk T o q)
  have he0 : s.heap.get? ea = none := by
    cases q : s.heap.get? ea with
    | none => rfl
    | some o =>
      rcases hea with z | z
      · exact (fields ea oe vs he hd (inStk _ (fr2 ea o q z))).elim
      · obtain ⟨o', q'⟩ := old ea o q
        rw [z] at q'; cases q'
  have he1 : H1 ea = none := by
    cases q : H1 ea with
    | none => rfl
    | some o =>
      rcases hea with z | z
      · exact absurd z (trk ea o q)
      · obtain ⟨o', q'⟩ := (I.hok ea o q).isThere
        rw [z] at q'; cases q'
  refine ⟨ea, C, d, H1, rfl, I.os, I.bare, ⟨fun b o q n hb _ => ?_, fun b o q n hb _ => ?_, fun b o q n _ => ?_, fun b o q _ => ?_, I.base.tups, I.base.frzs, I.base.tbls⟩, fun b o q => ?_,
    ⟨oe, vs, T, oT, ts, a0, he, ⟨hc, dx oe he⟩, h0, hd, h1, hne, hT, hdT, h3, he1, hT1, he0, hT0⟩, e⟩
  · exact keepB b o (fun z => hb (fr2 b o q z)) (I.base.keep b o q n hb (fun z => nomatch z))
  · obtain ⟨sl, q1⟩ := I.base.slot b o q n hb (fun z => nomatch z)
    obtain ⟨ob, g1, g2⟩ := frS b (inStk b hb)
    rw [q1] at g1; cases g1
    obtain ⟨sl', q2⟩ := sm b (inStk b hb) _ q1 g2
    exact ⟨sl', q2⟩
  · exact I.base.free b o q n (fun z => nomatch z)
  · obtain ⟨o', q1⟩ := old b o q
    by_cases hb : b ∈ hid
    · obtain ⟨ob, g1, g2⟩ := frS b (inStk b (fr2 b o q hb))
      obtain ⟨sl, q2⟩ := sm b (inStk b (fr2 b o q hb)) ob g1 g2
      exact ⟨_, q2⟩
    · exact ⟨o', keepB b o' hb q1⟩
  · refine (I.hok b o q).stay (fun c u hc q' => keepB c u ?_ q') (fun _ z => z) fun _ _ z => z
    rcases hc with z | z
    · rw [z]; exact trk b o q
    · exact trk c _ z
end
section
variable {P : Program} {w : World} {K : PySem.W.Frag} {mg : Str → Option Value} {base : Heap} {N : List Str} {qual : Str} {scope : Scope} {f : Addr} {cd : Value} {A : Around} {outer : List Env} {s : Shared} {H : Hp} {E : XK}
end
section
variable {X : Cx} {pins : List (Addr × Obj)} {σ : St} {H : Hp} {s : Shared}
end
section
variable {K : PySem.W.Frag} {g : TG} {te : TE} {σ0 : St} {H1 : Hp} {Q : VK}
end
end L2
set_option linter.all false
namespace RF
open PySem L2
end RF
set_option linter.all false
namespace RF
end RF
set_option Elab.async false
set_option linter.all false
set_option maxRecDepth 100000
set_option maxHeartbeats 2000000
namespace L2
open PySem PySem.Spec PyProof.Rows
section
variable {X : Cx}
theorem count_eqU {x : V} : ∀ {xs : List V} {us : List Value}, Vals xs us → xs.all flatV = true → us.countP (eqU x) = xs.countP fun y => eqV y x
  | _, _, .nil, _ => rfl
  | y :: xs, u :: us, .cons r t, f => by
    rw [List.all_cons, Bool.and_eq_true] at f
    rw [List.countP_cons, List.countP_cons, eqU_of r f.1, count_eqU t f.2]
noncomputable def rCount : V → List V → Hp → VK → Prop := fun x vs H Q => ∃ l xs y, x = .ref l ∧ vs = [y] ∧ H l = some (.lst xs) ∧ flatV y = true ∧ xs.all flatV = true ∧ Q (.int (xs.countP fun z => eqV z y : Nat)) H
theorem mt_count : MtM X "list.count" rCount := by
  intro pins s σ H x vs v us Q I rx rv h
  obtain ⟨l, xs, y, rfl, rfl, hH, fy, fs, q⟩ := h
  cases rx
  obtain ⟨u, rfl, ru⟩ := rv.one
  obtain ⟨z, its, n, r, hl, e⟩ := I.lstM hH
  refine call_meets F.slot_list_count ⟨_, e, rfl⟩ F.entry_list_count (F.args_list_count_2 _ _) (SeqAt.list_countAt l its.toArray n none #[] u (eqU y)) ⟨e, fun w hw => mem_eqAt ru fy r fs w (by simpa using hw), ?_⟩
  refine ⟨.int _, H, I.tok _, ⟨_, rfl⟩, ?_⟩
  rw [show its.toArray.toList.countP (eqU y) = its.countP (eqU y) by simp, count_eqU r fs]
  exact q
noncomputable def rIndex : V → List V → Hp → VK → Prop := fun x vs H Q => ∃ l xs y, ∃ j : Nat, x = .ref l ∧ vs = [y] ∧ H l = some (.lst xs) ∧ flatV y = true ∧ xs.all flatV = true ∧ (∃ z, xs[j]? = some z ∧ eqV z y = true) ∧ (∀ (m : Nat) z, m < j → xs[m]? = some z → eqV z y = false) ∧ Q (.int j) H
theorem mt_index : MtM X "list.index" rIndex := by
  intro pins s σ H x vs v us Q I rx rv h
  obtain ⟨l, xs, y, j, rfl, rfl, hH, fy, fs, ⟨zj, hj, ej⟩, no, q⟩ := h
  cases rx
  obtain ⟨u, rfl, ru⟩ := rv.one
  obtain ⟨z, its, n, r, hl, e⟩ := I.lstM hH
  have fl : ∀ (m : Nat) zz, xs[m]? = some zz → flatV zz = true := fun m zz hm => List.all_eq_true.mp fs zz (List.mem_of_getElem? hm)
  obtain ⟨uj, huj, rj⟩ := r.get hj
  have hlt : j < its.toArray.size := by rw [List.size_toArray]; exact (List.getElem?_eq_some_iff.mp huj).1
  have hj' := (List.getElem?_eq_some_iff.mp hj).1
  have h63 : (j : Int) < 2 ^ 63 - 1 := by
    have h2 : (sizeLine : Int) < 2 ^ 63 - 1 := by decide
    omega
  refine call_meets F.slot_list_index ⟨_, e, rfl⟩ F.entry_list_index (F.args_list_index_2 _ _) (SeqAt.list_indexAt l its.toArray n none #[] u (eqU y) j hlt h63 ?_ ?_) ⟨e, fun w hw => mem_eqAt ru fy r fs w (by simpa using hw), ?_⟩
  · have e1 : its.toArray[j] = uj := by simpa using (List.getElem?_eq_some_iff.mp huj).2
    rw [e1, eqU_of rj (fl j zj hj)]; exact ej
  · intro m hm hmj
    have hm' : m < xs.length := by rw [hl]; simpa using hm
    obtain ⟨um, hum, rm⟩ := r.get (List.getElem?_eq_getElem hm')
    have e1 : its.toArray[m] = um := by simpa using (List.getElem?_eq_some_iff.mp hum).2
    rw [e1, eqU_of rm (fl m _ (List.getElem?_eq_getElem hm'))]; exact no m _ hmj (List.getElem?_eq_getElem hm')
  · exact ⟨.int j, H, I.tok _, ⟨_, rfl⟩, q⟩
end
end L2
set_option Elab.async false
set_option linter.all false
set_option maxRecDepth 100000
set_option maxHeartbeats 2000000
namespace L2
open PySem PySem.Spec PyProof.Rows
structure RoomM (k : Nat) (A : Around) : Prop where
  dp : A.depth + 3 * k + 5 < recursionLimit
  un : A.units + 16 * k + 200 < cLine
theorem RoomM.deeper {k : Nat} {A : Around} (r : RoomM (k + 1) A) (env : Env) : RoomM k (A.deeper env) := ⟨by have := r.dp; show A.depth + 1 + 3 * k + 5 < _; omega, by have := r.un; show A.units + 3 + 16 * k + 200 < _; omega⟩
theorem RoomM.depth {k : Nat} {A : Around} (r : RoomM k A) : A.depth < recursionLimit := by have := r.dp; omega
theorem Room.marked {k : Nat} {A : Around} (r : Room k A) (e : Option Value) : RoomM k (A.mark e) := ⟨r.dp, r.un⟩
noncomputable abbrev Cx.rough (X : Cx) : Cx := { X with calm := false }
structure FnOkM (P : Program) (w : World) (K : PySem.W.Frag) (mg : Str → Option Value) (base : Heap) (k : Nat) (f : Addr) (fd : FuncData) (ps : List Str) (sp : Sp) : Prop where
  len : ∀ vs H Q E, sp vs H Q E → vs.length = ps.length
  run : ∀ (A : Around) (outer : List Env) (s : Shared) (H : Hp) (args : Args) (us : List Value) (vs : List V) (Q : VK), RoomM k A → Env0 P w K mg base A outer s H → BindsTo s fd args (ps.zip us) → Vals vs us → sp vs H Q E0 →
    codeAny (model P w) A (.call (.ref f) args) (CR (CX1 P w) outer P w H s Q E0) s
theorem inv_startM {CX : CXT} {P : Program} {w : World} {K : PySem.W.Frag} {mg : Str → Option Value} {base : Heap} {N ps : List Str} {qual : Str} {scope : Scope} {f : Addr} {cd : Value} {A : Around} {outer : List Env} {s s1 : Shared} {H : Hp} {E : XK} {us : List Value} {vs : List V}
    (S : FnScope N ps scope) (e0 : Env0 P w K mg base A outer s H) (hl : vs.length = ps.length) (r : Vals vs us)
    (x : InCallC s s.heap.objs.size (bindL (envOfC qual scope s.heap.objs.size f cd).kindOf (ps.zip us) fun _ => none) (cellsFrom (s.heap.objs.size + 1) scope.names []) (bindC (envOfC qual scope s.heap.objs.size f cd).kindOf (ps.zip us) fun _ => none) s1) :
    Inv (cxOf CX P w K mg base N qual scope f cd A outer s H E).rough [] (start N vs) H s1 := by
  have I : Inv (cxOf CX P w K mg base N qual scope f cd { A with handled := none } outer s H E) [] (start N vs) H s1 := inv_start (A := { A with handled := none }) S rfl ⟨e0.frames, e0.mod, e0.bs, e0.bsz, e0.funs, e0.frf, e0.hok, e0.bare⟩ hl r x
  exact ⟨⟨I.ok.mod, I.ok.kind, I.ok.glob, I.ok.blt, I.ok.above, I.ok.inj, I.ok.has, I.ok.cab, (fun z => nomatch z), Around.frames_deeper e0.frames, I.ok.stk, I.ok.exf, I.ok.bs, I.ok.bsz, I.ok.noex, I.ok.exfs, I.ok.funs, I.ok.frf⟩, I.os, I.bare, I.base, I.loc, I.cell, I.free, I.freeC, I.pin, I.hok, I.len⟩
theorem fn_ofM {P : Program} {w : World} {K : PySem.W.Frag} {mg : Str → Option Value} {base : Heap} {k : Nat} {f : Addr} {name qual : Str} {params : Arguments} {body : List Stmt} {scope : Scope} {dV kV doc pm cdv ct oc : Value} {an od : Option Addr}
    {osl : Array (Option Value)} {N ps : List Str} {sp : Sp} (lk : K.lookup f = some ⟨oc, od, .func (PySem.W.fnOf name qual params body scope dV kV doc pm an cdv ct), osl⟩) (hcd : PySem.W.codeIn K cdv qual = true) (S : FnScope N ps scope)
    (len : ∀ vs H Q E, sp vs H Q E → vs.length = ps.length)
    (hbody : ∀ (A : Around) (outer : List Env) (s : Shared) (H : Hp) (vs : List V) (Q : VK), RoomM k (A.deeper (envOfC qual scope s.heap.objs.size f cdv)) → sp vs H Q E0 →
      ∃ t, PSs (cxOf (CX1 P w) P w K mg base N qual scope f cdv A outer s H E0).rough body t ∧ t { nx := fun _ H' => Q .non H', rt := Q } (start N vs) H) :
    FnOkM P w K mg base (k + 1) f (PySem.W.fnOf name qual params body scope dV kV doc pm an cdv ct) ps sp := by
  refine ⟨len, fun A outer s H args us vs Q hr e0 hb r hsp => ?_⟩
  have hl := len _ _ _ _ hsp
  have KX : K.In s.heap := e0.mod.kin.keeps fun b o e => (e0.bs b o e).1
  have lim : s.heap.NoLimit := e0.mod.nolimit.keeps fun b o e => (e0.bs b o e).1
  have hkind : ∀ y ∈ ps.zip us, scope.names.lookup y.1 = some .local ∨ (scope.names.lookup y.1 = some .cell ∧ ((cellsFrom (s.heap.objs.size + 1) scope.names []).lookup y.1).isSome = true) := fun ⟨n, v⟩ hy => by
    rcases S.par n (List.of_mem_zip hy).1 with q | q
    · exact .inl q
    · exact .inr ⟨q, PySem.W.cellsFrom_some _ _ _ (.inl q)⟩
  refine codeAny_call_function hr.depth (KX _ _ lk) rfl S.co S.gen rfl (PySem.W.codeRec_of KX hcd) (hb _ _ _ _ ?_)
  refine wpAny_newFunctionEnv_cells S.kind hkind fun env he s1 x => ?_
  subst he
  refine ⟨lim.keeps x.toInCall.keep, codeAny_func ?_⟩
  obtain ⟨t, ht, hq⟩ := hbody A outer s H vs Q (hr.deeper _) hsp
  have I : Inv (cxOf (CX1 P w) P w K mg base N qual scope f cdv A outer s H E0).rough [] (start N vs) H s1 := inv_startM S e0 hl r x
  refine wpAny_mono (ht [] s1 (start N vs) H _ I hq) (fun fl s' hs => ?_) fun e s' hs => hs
  have fin : ∀ {σ' : St} {H' : Hp} {v : V} {u : Value}, Inv (cxOf (CX1 P w) P w K mg base N qual scope f cdv A outer s H E0).rough [] σ' H' s' → RelV v u → Q v H' → CE outer P w H s Q u s' :=
    fun {σ' H' v u} J rv q => ⟨v, H', J.os, J.bare, J.base, J.hok, rv, q⟩
  cases fl with
  | ret u =>
    obtain ⟨v, σ', H', J, rv, q⟩ := hs
    exact fin J rv q
  | next =>
    obtain ⟨σ', H', J, q⟩ := hs
    exact fin (v := V.non) (u := Value.none) J rfl q
  | brk =>
    obtain ⟨_, _, _, q⟩ := hs
    exact False.elim q
  | cont =>
    obtain ⟨_, _, _, q⟩ := hs
    exact False.elim q
section
variable {P : Program} {w : World} {K : PySem.W.Frag} {mg : Str → Option Value} {base : Heap}
end
section
variable {X : Cx}
end
noncomputable def exPhi (ea C : Addr) (d : Option Addr) : Heap → Prop := fun h => ∃ o vs, h.get? ea = some o ∧ (o.cls = .ref C ∧ Dx o d) ∧ o.data = .fields vs
theorem exPhi_keep {ea C : Addr} {d : Option Addr} : ∀ h1 h2 : Heap, exPhi ea C d h1 → (∀ o, h1.get? ea = some o → h2.get? ea = some o) → exPhi ea C d h2 := fun _ _ ⟨o, vs, e, c, d⟩ k => ⟨o, vs, k o e, c, d⟩
section
variable {X : Cx} {pins : List (Addr × Obj)} {σ : St} {H : Hp} {s : Shared} {ea C : Addr} {d : Option Addr}
theorem Inv.track (I : Inv X pins σ H s) (n : H ea = none) (p : exPhi ea C d s.heap) (h0 : X.s₀.heap.get? ea = none) (h1 : ea ≠ X.env.locals) (h2 : ∀ x c, X.env.cells.lookup x = some c → c ≠ ea) (h3 : ∀ p ∈ X.pn ++ pins, p.1 ≠ ea) :
    Inv X pins σ (upd H ea (.ext (exPhi ea C d))) s := by
  have keep : ∀ {b : Addr} {o : HO}, H b = some o → upd H ea (.ext (exPhi ea C d)) b = some o := fun {b o} e => by rw [upd_ne (by rintro rfl; rw [n] at e; cases e)]; exact e
  have none' : ∀ {b : Addr}, b ≠ ea → H b = none → upd H ea (.ext (exPhi ea C d)) b = none := fun {b} hb e => by rw [upd_ne hb]; exact e
  refine ⟨I.ok, I.os, I.bare, ⟨I.base.keep, I.base.slot, fun b o q z hx => ?_, I.base.there, fun b xs e => keep (I.base.tups b xs e), fun b o u e => keep (I.base.frzs b o u e), fun b ps e => ?_⟩, I.loc, I.cell, none' (Ne.symm h1) I.free, fun x c e => none' (h2 x c e) (I.freeC x c e), fun p hp => ?_, fun b o e => ?_, I.len⟩
  · exact none' (by rintro rfl; rw [h0] at q; cases q) (I.base.free b o q z hx)
  · obtain ⟨m, q⟩ := I.base.tbls b ps e
    exact ⟨m, keep q⟩
  · obtain ⟨e, z, r⟩ := I.pin p hp
    exact ⟨e, none' (h3 p hp) z, r⟩
  · by_cases hb : b = ea
    · subst hb
      rw [upd_same] at e; cases e
      obtain ⟨o, vs, q, _⟩ := id p
      exact ⟨p, ⟨o, q⟩, exPhi_keep⟩
    · rw [upd_ne hb] at e
      exact (I.hok b o e).stay (fun c v _ q => q) (fun c q => keep q) fun c xs q => keep q
theorem forget_ok {M : Model} {A : Around} {E : Value → Shared → Prop} {i : Nat} {x : Str} {pos : Pos} {Q : Unit → Shared → Prop} (I : Inv X pins σ H s) (hN : X.N.Nodup) (hi : X.N[i]? = some x) (hx : X.env.scope.names.lookup x = some .local)
    (h : ∀ s', Inv X pins (σ.set i none) H s' → Q () s') : wpAny M A (do bindName X.env x .none; unbindBehindTheSuite X.env x pos) Q E s := by
  obtain ⟨m, hn, hl⟩ := id I.loc
  have hcls : (X.env.scope.kind == .class || (X.env.scope.kind == .module && X.env.locals != X.env.globals)) = false := by rw [I.ok.kind]; rfl
  have hiσ : i < σ.length := by rw [I.len]; exact (List.getElem?_eq_some_iff.mp hi).1
  have cne := I.cne
  obtain ⟨oL, _, _, hoL, _⟩ := id hn
  refine wpAny_nameGoes_keeps hx hn hcls fun h' v hn' hs => ?_
  have hs : Heap.SameBut X.env.locals s.heap h' := hs
  refine h _ ⟨I.ok, I.os, I.bare, ⟨fun b o e n hb hx => ?_, fun b o e n hb hx => ?_, I.base.free, fun b o e hx => ?_, I.base.tups, I.base.frzs, I.base.tbls⟩, ⟨_, hn', fun j y v' e1 e2 e3 => ?_⟩, fun y c e => ?_, I.free, I.freeC, fun p hp => ?_, fun b ob e => ?_, by simpa using I.len⟩
  · exact (hs.2 b (Nat.ne_of_lt (Nat.lt_of_lt_of_le (Heap.lt_size e) I.ok.above))).trans (I.base.keep b o e n hb hx)
  · obtain ⟨sl, e1⟩ := I.base.slot b o e n hb hx
    exact ⟨sl, (hs.2 b (Nat.ne_of_lt (Nat.lt_of_lt_of_le (Heap.lt_size e) I.ok.above))).trans e1⟩
  · obtain ⟨o', e1⟩ := I.base.there b o e hx
    exact ⟨o', (hs.2 b (Nat.ne_of_lt (Nat.lt_of_lt_of_le (Heap.lt_size e) I.ok.above))).trans e1⟩
  · by_cases hj : j = i
    · subst hj
      rw [List.getElem?_set_self hiσ] at e2
      cases e2
    · rw [List.getElem?_set_ne (Ne.symm hj)] at e2
      obtain ⟨u', r', q⟩ := hl j y v' e1 e2 e3
      refine ⟨u', r', ?_⟩
      rcases q with ⟨k, e⟩ | ⟨k, c, e, z⟩
      · refine .inl ⟨k, ?_⟩
        have : y ≠ x := fun e => hj (nodup_ix hN e1 (e ▸ hi))
        simp [this, e]
      · exact .inr ⟨k, c, e, z.sameBut hs (cne y c e)⟩
  · obtain ⟨w', z⟩ := I.cell y c e
    exact ⟨w', z.sameBut hs (cne y c e)⟩
  · obtain ⟨e, n, ne, nf, d⟩ := I.pin p hp
    exact ⟨(hs.2 p.1 ne).trans e, n, ne, nf, d⟩
  · refine (I.hok b ob e).stay (fun c w' hc q => (hs.2 c ?_).trans q) (fun _ q => q) fun _ _ q => q
    rintro rfl
    rcases hc with rfl | hc
    · rw [I.free] at e; cases e
    · rw [I.free] at hc; cases hc
end
noncomputable def Ends.less (D : Ends) (i : Nat) : Ends := { nx := fun σ H => D.nx (σ.set i none) H, rt := D.rt, bk := fun σ H => D.bk (σ.set i none) H, ct := fun σ H => D.ct (σ.set i none) H }
noncomputable def hAs (K : PySem.W.Frag) (C1 : Addr) (i : Nat) (ts : TS) (tr : TH) : TH := fun C d D σ H => (PySem.W.exmOne K C (.ref C1) = some true ∧ ∃ c, C = .ref c ∧ ∀ ea, H ea = none → ts (D.less i) (σ.set i (some (.ref ea))) (upd H ea (.ext (exPhi ea c d)))) ∨ (PySem.W.exmOne K C (.ref C1) = some false ∧ tr C d D σ H)
section
variable {X : Cx}
theorem ph_as {x n : Str} {i : Nat} {np pos : Pos} {b₀ : Stmt} {suite : List Stmt} {rest : List ExceptHandler} {C1 : Addr} {ts : TS} {tr : TH} (O : Own X) (hm : X.mg x = some (.ref C1)) (hN : X.N.Nodup) (hi : X.N[i]? = some n) (hl : X.env.scope.names.lookup n = some .local)
    (hb : ∀ ea, PSs (X.mark ea).nox (b₀ :: suite) ts) (hr : PH X rest tr) (hg : Gl X x := by rfl) (hdb : (x == ("__debug__" : Str)) = false := by decide) :
    PH X (.ExceptHandler (some (.Name x np)) (some n) (b₀ :: suite) pos :: rest) (hAs X.K C1 i ts tr) := by
  intro pins s σ H D ea C d I f h
  have hcls : ∃ oe, s.heap.get? ea = some oe ∧ oe.cls = C := by
    obtain ⟨oe, vs, T, oT, ts, a0, he, ⟨hc, _⟩, _⟩ := f
    exact ⟨oe, he, hc⟩
  obtain ⟨oe, he, hc⟩ := hcls
  subst hc
  refine wpAny_handleBy_cons (codeAny_handlers_test (ld_glob (X := X.mark ea) (I.mark ea) hg hm ?_ hdb)) (by intro q; cases q)
  have LT : PySem.W.Looks (model X.prog X.w) s.heap (typeOf (.ref ea)) oe.cls := (PySem.W.Looks.ld he).andThen .now
  rcases h with ⟨hx, c, hc, h⟩ | ⟨hx, h⟩
  · refine (PySem.W.exm_one I.kIn LT hx).here ?_
    refine codeAny_handlers_suite_as (land_fly O I f fun h' I' f' => ?_)
    obtain ⟨oe', vs, T, oT, ts', a0, he', ⟨hc', hx'⟩, h0, hd, h1, hne, hT, hdT, h3, n1, n2, hb'⟩ := f'
    obtain ⟨y1, y2, y3, y4⟩ := hb' ea (.inl rfl)
    have It := I'.track (C := c) n1 ⟨oe', vs, he', ⟨by rw [hc', hc], hx'⟩, hd⟩ y1 y2 y3 y4
    refine store_ok (X := X) It hN hi (.inl hl) (v := .ref ea) rfl (fun s2 I2 => ?_) (.inr hl)
    refine wpAny_mono (hb ea pins s2 _ _ (D.less i) ((I2.mark ea).wish _) (h ea n1)) (fun fl s3 q => ?_) (fun _ _ z => z.elim)
    have q := SP.unmark I.ok (SP.unwish q)
    cases fl with
    | next => obtain ⟨σ', H', J, q⟩ := q; exact forget_ok J hN hi hl fun s4 J' => ⟨_, H', J', q⟩
    | brk => obtain ⟨σ', H', J, q⟩ := q; exact forget_ok J hN hi hl fun s4 J' => ⟨_, H', J', q⟩
    | cont => obtain ⟨σ', H', J, q⟩ := q; exact forget_ok J hN hi hl fun s4 J' => ⟨_, H', J', q⟩
    | ret u => obtain ⟨v, σ', H', J, r, q⟩ := q; exact forget_ok J hN hi hl fun s4 J' => ⟨v, _, H', J', r, q⟩
  · exact (PySem.W.exm_one I.kIn LT hx).here (hr pins s σ H D ea _ d I f h)
end
end L2
set_option linter.all false
namespace RF
open PySem L2
noncomputable def spF : Sp := fun _ _ _ _ => False
theorem cut_mid {ns : List Int} {a b : Int} (ha : 0 ≤ a) (hb : 0 ≤ b) : cutV (ns.map V.int) (some a) (some b) = ((ns.take b.toNat).drop a.toNat).map V.int := by
  have ea : a = (a.toNat : Int) := by omega
  have eb : b = (b.toNat : Int) := by omega
  unfold cutV
  rw [ea, eb, HT.sIx_nat, HT.sIx_nat, Int.toNat_natCast, Int.toNat_natCast, List.map_drop, List.map_take, List.drop_take]
  generalize a.toNat = i
  generalize b.toNat = j
  rw [List.length_map]
  rcases Nat.le_total i ns.length with hi | hi
  · rw [Nat.min_eq_left hi]
    rcases Nat.le_total j ns.length with hj | hj
    · rw [Nat.min_eq_left hj]
    · rw [Nat.min_eq_right hj, List.take_of_length_le (by rw [List.length_drop, List.length_map]; omega), List.take_of_length_le (by rw [List.length_drop, List.length_map]; omega)]
  · rw [Nat.min_eq_right hi]
    simp [List.drop_of_length_le, hi]
theorem set_cut {ns : List Int} {j : Nat} {x : Int} (h : j < ns.length) : ns.take j ++ [x] ++ ns.drop (j + 1) = ns.set j x := by
  rw [List.set_eq_take_append_cons_drop, if_pos h, List.append_assoc]; rfl
end RF
set_option Elab.async false
set_option linter.all false
set_option maxRecDepth 100000
set_option maxHeartbeats 2000000
namespace L2
open PySem PySem.Spec PyProof.Rows Builtin Builtin.ObjectAttr Builtin.Getset_descriptor
section
variable {prog : Program} {w : World} {A : Around} {E : Value → Shared → Prop} {s : Shared} {K : PySem.W.Frag} {ea C : Addr} {oe : Obj} {R : Result → Shared → Prop}
theorem exc_get {tp : Value} (X : K.In s.heap) (he : s.heap.get? ea = some oe) (hc : oe.cls = .ref C) (hm : PySem.W.mroIn K C (.type "object") = some true) (h : R (.ok (.ret (.ref C))) s) :
    codeAny (model prog w) A (.call (.builtin "getset_descriptor.__get__") ⟨[.builtin "object.__class__", .ref ea, tp], []⟩) R s := by
  obtain ⟨hh, g, dr, t, os⟩ := s
  have L0 : PySem.W.Looks (model prog w) hh (typeOf (.ref ea)) (.ref C) := hc ▸ (PySem.W.Looks.ld he).andThen .now
  have L1 := PySem.W.looks_mroIn (M := model prog w) X hm
  refine codeAny_call_builtin PySem.W.KF.slot_gs.plain PySem.W.KF.entry_gs (PySem.W.KF.slot_gs.check _ _ _ _ _ _ _ _ PySem.W.KF.type_class (PySem.W.KF.args_gs _ _ _) ?_)
  unfold Builtin.«getset_descriptor.__get__» descrGet; rw [PySem.W.dga_obj]; refine wpAny_bind (wpAny_pure ?_); unfold descrGetter descrCheckInstance descrNameAndClass isInstance
  simp only [PySem.W.KF.owner_class]; repeat lk
  refine ⟨Code.quiet_builtin _ (by decide +kernel), codeAny_builtin PySem.W.KF.entry_class ?_⟩; unfold Builtin.«object.__class__» shownTypeOf; repeat lk
  exact h
structure ExcC (K : PySem.W.Frag) (C : Addr) : Prop where
  ga : PySem.W.findIn K (.ref C) "__getattribute__" = some (some (.builtin "BaseException.__getattribute__"))
  gt : PySem.W.findIn K (.ref C) "__getattr__" = some none
  cl : PySem.W.findIn K (.ref C) "__class__" = some (some (.builtin "object.__class__"))
  sp : PySem.W.specialIn K (.builtin "object.__class__") "__get__" = some (some (.builtin "getset_descriptor.__get__"))
  tk : PySem.W.takesIn K (.builtin "object.__class__") = some true
  mo : PySem.W.mroIn K C (.type "object") = some true
  mb : PySem.W.mroIn K C (.type "BaseException") = some true
theorem exc_entry {tk : Tok} {Q : Fin → Shared → Prop} (G : ExcC K C) (X : K.In s.heap) (he : s.heap.get? ea = some oe) (hc : oe.cls = .ref C) (h : Q (.done (.ret (.ref C))) s) :
    wpAny (model prog w) A (Builtin.«object.__getattribute__» ⟨[.ref ea, .str "__class__" tk], []⟩) Q E s := by
  obtain ⟨hh, g, dr, t, os⟩ := s
  have L0 : PySem.W.Looks (model prog w) hh (typeOf (.ref ea)) (.ref C) := hc ▸ (PySem.W.Looks.ld he).andThen .now
  have L1 := PySem.W.looks_findIn (M := model prog w) X G.cl
  have L2 : PySem.W.Looks (model prog w) hh (getOf (some (.builtin "object.__class__"))) (some (.builtin "getset_descriptor.__get__")) := PySem.W.looks_specialIn X G.sp
  have L3 := PySem.W.looks_takesIn (M := model prog w) X G.tk
  have L4 : PySem.W.Looks (model prog w) hh (find (.ref ea) (.ref C) "__class__") (.bind (.builtin "getset_descriptor.__get__") (.builtin "object.__class__")) :=
    L1.andThen (L2.andThen ((show PySem.W.Looks (model prog w) hh (dataDescriptor? (some (.builtin "object.__class__")) (some (.builtin "getset_descriptor.__get__"))) (some (.builtin "getset_descriptor.__get__", .builtin "object.__class__")) from L3.andThen .now).andThen (PySem.W.Looks.tag .now)))
  refine wpAny_bind (wpAny_pure (wpAny_bind (wpAny_pure (wpAny_bind (L0.at (wpAny_bind (L4.at ?_)))))))
  show wpAny _ _ (bindTo _ _ _ _) _ _ _
  unfold bindTo
  show wpAny _ _ (holding [.builtin "object.__class__"] (call (.builtin "getset_descriptor.__get__") [.builtin "object.__class__", .ref ea, .ref C]) >>= ret) _ _ _
  refine wpAny_bind (wpAny_holding (wpAny_call (exc_get (s := ⟨hh, g, dr, t, os⟩) X he hc G.mo ?_)))
  exact wpAny_pure h
theorem bind_ga {x : Value} : bindSpecial (.builtin "BaseException.__getattribute__") x = pure (Value.builtin "BaseException.__getattribute__", [x]) := by
  have e : typeOf (.builtin "BaseException.__getattribute__") = pure (.type "wrapper_descriptor") := by kernel_rfl
  unfold bindSpecial; rw [e]; rfl
theorem plain_ga : plainId "BaseException.__getattribute__" = true := by decide +kernel
theorem handed_on' {M : Model} {C : Addr} {Q : Value → Shared → Prop} (h : Q (.ref C) s) : wpAny M A (handedOut (.ref C)) Q E s := PySem.W.handed_on rfl h
theorem exc_class {Q : Option Value → Shared → Prop} (G : ExcC K C) (X : K.In s.heap) (he : s.heap.get? ea = some oe) (hc : oe.cls = .ref C) (h : Q (some (.ref C)) { s with toks := s.toks + 1 }) : wpAny (model prog w) A (getAttr? (.ref ea) "__class__") Q E s := by
  obtain ⟨hh, g, d, t, os⟩ := s
  have L0 : PySem.W.Looks (model prog w) hh (typeOf (.ref ea)) (.ref C) := hc ▸ (PySem.W.Looks.ld he).andThen .now
  have L1 := PySem.W.looks_findIn (M := model prog w) X G.ga
  have L2 := PySem.W.looks_findIn (M := model prog w) X G.gt
  unfold getAttr? getAttrBy? getAttrBy
  refine wpAny_bind (wpAny_mkText (wpAny_bind (wpAny_attempt (wpAny_holding (wpAny_bind (L0.at (wpAny_bind (L1.at ?_)))))))); show wpAny _ _ (getAttrByItsOwn _ _ _ _ _ _) _ _ _
  unfold getAttrByItsOwn
  refine wpAny_bind ?_
  show wpAny _ _ (typeLookup (.ref C) "__getattr__") _ _ _
  refine L2.at ?_
  refine wpAny_bind (wpAny_attempt (wpAny_holding ?_))
  show wpAny _ _ (boundAndCalled (.builtin "BaseException.__getattribute__") (.ref ea) _) _ _ _
  unfold boundAndCalled
  refine wpAny_bind (wpAny_of_eq (a := (Value.builtin "BaseException.__getattribute__", [Value.ref ea])) bind_ga ?_)
  refine wpAny_call (codeAny_call_builtin plain_ga F.entry_bexc_ga ?_)
  have hk : builtinKind "BaseException.__getattribute__" = some .slot := by decide +kernel
  have hs : splitId "BaseException.__getattribute__" = some ("BaseException", "__getattribute__") := by decide +kernel
  have L5 : PySem.W.Looks (model prog w) hh (isInstance (.ref ea) (.type "BaseException")) true := L0.andThen (PySem.W.looks_mroIn X G.mb)
  have ha := F.args_bexc_ga (.ref ea) (.str "__class__" t)
  simp only [checkBuiltinCall, hk, hs]
  refine wpAny_bind (L5.at ?_)
  rw [if_neg (by decide)]
  refine wpAny_of_eq (a := ()) ha ?_
  refine exc_entry (s := ⟨hh, g, d, t + 1, os⟩) G X he hc ?_
  exact handed_on' (wpAny_pure h)
theorem kitx_exc {d : Option Addr} (G : ExcC K C) : PySem.W.KitX K (.ref ea) (.ref C) (exPhi ea C d) where
  ty := fun M h _ ⟨o, vs, he, ⟨hc, _⟩, _⟩ => hc ▸ (PySem.W.Looks.ld he).andThen .now
  it := fun M h X _ => by
    have z := G.mo
    unfold PySem.W.mroIn at z
    obtain ⟨cd, hcd, _⟩ := Option.bind_eq_some_iff.mp z
    unfold PySem.W.clsIn at hcd
    split at hcd
    · rename_i c' d' cd' sl' ho
      intro A' Q' E' s' k q; unfold isType loadHead; exact wpAny_bind (wpAny_loadPart (k _ _ (X _ _ ho)) (wpAny_pure q))
    · cases hcd
  ne := fun h tp dd its n sl X htp => by
    have z := G.mo
    unfold PySem.W.mroIn at z
    obtain ⟨cd, hcd, _⟩ := Option.bind_eq_some_iff.mp z
    refine Bool.eq_false_iff.mpr fun q => ?_
    have e : C = tp := Value.ref.inj (beq_iff_eq.mp q); subst e; unfold PySem.W.clsIn at hcd
    split at hcd
    · rename_i c' d' cd' sl' ho
      have z := (X _ _ ho).symm.trans htp
      cases z
    · cases hcd
  ca := fun X ⟨o, vs, he, ⟨hc, _⟩, _⟩ k => exc_class G X he hc k
end
section
variable {X : Cx}
noncomputable def rIsiE (K : PySem.W.Frag) : List V → Hp → VK → Prop := fun xs H Q => ∃ ea C d cv c b, xs = [.ref ea, cv] ∧ ((∃ T, cv = .ty T ∧ c = .type T) ∨ (∃ a, cv = .ref a ∧ c = .ref a)) ∧ H ea = some (.ext (exPhi ea C d)) ∧ ExcC K C ∧ PySem.W.kitOne K (.ref C) c = some b ∧ Q (.bl b) H
theorem call_isiE : CallR X (.builtin "isinstance") (rIsiE X.K) := by
  intro pins s σ H xs us Q I r h
  obtain ⟨ea, C, d, cv, c, b, rfl, hcv, he, G, e, q⟩ := h
  obtain ⟨u, v, rfl, rx, rc⟩ := vals2 r
  cases rx
  have hv : v = c := by
    rcases hcv with ⟨T, rfl, rfl⟩ | ⟨a, rfl, rfl⟩
    · exact rc
    · exact rc
  subst hv
  obtain ⟨ph, _⟩ := (show ObjOk X.prog X.w H s.heap ea (.ext (exPhi ea C d)) from I.hok ea _ he)
  exact PySem.W.kia_one (kitx_exc G) I.kIn ph e (fun z => nomatch z) fun tk => ⟨.bl b, H, I.tok _, rfl, q⟩
end
end L2
set_option Elab.async false
set_option linter.all false
set_option maxRecDepth 100000
set_option maxHeartbeats 2000000
namespace L2
open PySem PySem.Spec PyProof.Rows
section
variable {X : Cx}
end
end L2
set_option linter.all false
namespace RF
open PySem L2
end RF
set_option linter.all false
namespace RF
open PySem L2
end RF
set_option Elab.async false
set_option linter.all false
set_option maxRecDepth 100000
set_option maxHeartbeats 2000000
namespace L2
open PySem PySem.Spec PyProof.Rows
theorem len_cons {us : List Value} {n : Nat} (h : us.length = n + 1) : ∃ u t, us = u :: t ∧ t.length = n := by
  cases us with
  | nil => cases h
  | cons u t => exact ⟨u, t, rfl, Nat.succ.inj h⟩
theorem len_nil {us : List Value} (h : us.length = 0) : us = [] := List.eq_nil_of_length_eq_zero h
theorem binds1 {x : Str} {st : Stmt} {a : Str} (h : ∀ (kV doc pm : Value) (an : Option Addr) (cdv ct u0 : Value), bindArgs (PySem.W.fnOf x x (defArgs st) (defBody st) (defScope st) .none kV doc pm an cdv ct) ⟨[u0], []⟩ = pure [(a, u0)]) : BindsAll x st [a] :=
  fun kV doc pm an cdv ct us h0 => by
    obtain ⟨u0, t1, rfl, h1⟩ := len_cons h0
    obtain rfl := len_nil h1
    exact h kV doc pm an cdv ct u0
theorem binds2 {x : Str} {st : Stmt} {a b : Str} (h : ∀ (kV doc pm : Value) (an : Option Addr) (cdv ct u0 u1 : Value), bindArgs (PySem.W.fnOf x x (defArgs st) (defBody st) (defScope st) .none kV doc pm an cdv ct) ⟨[u0, u1], []⟩ = pure [(a, u0), (b, u1)]) : BindsAll x st [a, b] :=
  fun kV doc pm an cdv ct us h0 => by
    obtain ⟨u0, t1, rfl, h1⟩ := len_cons h0
    obtain ⟨u1, t2, rfl, h2⟩ := len_cons h1
    obtain rfl := len_nil h2
    exact h kV doc pm an cdv ct u0 u1
theorem binds3 {x : Str} {st : Stmt} {a b c : Str} (h : ∀ (kV doc pm : Value) (an : Option Addr) (cdv ct u0 u1 u2 : Value), bindArgs (PySem.W.fnOf x x (defArgs st) (defBody st) (defScope st) .none kV doc pm an cdv ct) ⟨[u0, u1, u2], []⟩ = pure [(a, u0), (b, u1), (c, u2)]) : BindsAll x st [a, b, c] :=
  fun kV doc pm an cdv ct us h0 => by
    obtain ⟨u0, t1, rfl, h1⟩ := len_cons h0
    obtain ⟨u1, t2, rfl, h2⟩ := len_cons h1
    obtain ⟨u2, t3, rfl, h3⟩ := len_cons h2
    obtain rfl := len_nil h3
    exact h kV doc pm an cdv ct u0 u1 u2
section
variable {X : Cx}
theorem pss_cutF {ι : Type} {st : Stmt} {rest : List Stmt} {t u : TS} (G : ι → St → Hp → Prop) (h1 : PS X st t) (h2 : PSs X rest u) : PSs X (st :: rest) (fun D σ H => ∃ i : ι, (∀ σ' H', G i σ' H' → u D σ' H') ∧ t { D with nx := G i } σ H) := by
  intro pins s σ H D I ⟨i, ha, hb⟩
  exact pss_cut (G i) h1 h2 pins s σ H D I ⟨ha, hb⟩
end
end L2
set_option linter.all false
namespace RF
open PySem L2
end RF
set_option Elab.async false
set_option linter.all false
set_option maxRecDepth 100000
set_option maxHeartbeats 2000000
set_option exponentiation.threshold 10000
namespace L2
open PySem PySem.Spec PyProof.Rows
section
variable {X : Cx}
end
end L2
set_option linter.all false
namespace RF
open PySem L2 PyProof.Rows
end RF
set_option Elab.async false
set_option linter.all false
set_option maxRecDepth 100000
set_option maxHeartbeats 2000000
namespace L2
open PySem PySem.Spec PyProof.Rows
section
variable {X : Cx} {pins : List (Addr × Obj)} {σ : St} {H : Hp} {s : Shared}
theorem comp_back {scope : Scope} {lv : Nat} {caps : List Nat} {N' : List Str} {fp : List Addr} {C : Addr} {H3 H5 : Hp} {s3 s6 : Shared} {h' : Heap} (hC : s3.heap.objs.size ≤ C) (I3 : Inv X pins σ H3 s3) (f3 : ∀ b ∈ fp, FpOk X pins H3 b)
    (I6 : Inv (X.comp scope C N' s3 H3 fp) [] (seen lv caps σ) H5 s6) (hs' : Heap.SameBut C s6.heap h') : Inv X pins σ H5 { s6 with heap := h' } := by
  have ub := I6.base
  have neC : ∀ b o, s3.heap.get? b = some o → b ≠ C := fun b o q => Nat.ne_of_lt (Nat.lt_of_lt_of_le (Heap.lt_size q) hC)
  refine I3.call' (ch := fp) (s' := { s6 with heap := h' }) I6.os ⟨fun b o q n hb hx => (hs'.2 b (neC b o q)).trans (ub.keep b o q n hb hx), fun b o q n hb hx => ?_, ub.free, fun b o q hx => ?_, ub.tups, ub.frzs, ub.tbls⟩ ?_ I6.bare (fun b hb => ?_)
  · obtain ⟨sl, e⟩ := ub.slot b o q n hb hx
    exact ⟨sl, (hs'.2 b (neC b o q)).trans e⟩
  · obtain ⟨o', e⟩ := ub.there b o q hx
    exact ⟨o', (hs'.2 b (neC b o q)).trans e⟩
  · intro b o q
    refine (I6.hok b o q).stay (fun c u hc' q' => (hs'.2 c ?_).trans q') (fun _ z => z) fun _ _ z => z
    intro ec
    have fC : H5 C = none := I6.free
    rcases hc' with z | z
    · rw [← z, ec, fC] at q; cases q
    · rw [ec, fC] at z; cases z
  · obtain ⟨_, y1, _, y3, y4, y5⟩ := f3 b hb
    exact ⟨y3, y1, y4, y5⟩
theorem comp_use {scope : Scope} {lv : Nat} {caps : List Nat} {N' : List Str} {fp : List Addr} {C : Addr} {H3 H5 : Hp} {s3 s6 : Shared} {i : Nat} {y : Str} {py : Pos} {v : V} {u : Value} {D : Ends} (hC : s3.heap.objs.size ≤ C) (I3 : Inv X pins σ H3 s3) (f3 : ∀ b ∈ fp, FpOk X pins H3 b)
    (hN : X.N.Nodup) (hi : X.N[i]? = some y) (hx : Loc X.env.scope y) (hf : X.fn y = true ∨ X.env.scope.names.lookup y = some .local)
    (I6 : Inv (X.comp scope C N' s3 H3 fp) [] (seen lv caps σ) H5 s6) (r : RelV v u) (q : D.nx (σ.set i (some v)) H5) :
    compPost (model X.prog X.w) X.A X.xe (some (assign (.Name y py) X.env)) (fun _ s' => SP X pins D .next s') u C (.ok .next) s6 := by
  have I := comp_back hC I3 f3 I6 (Heap.SameBut.refl C s6.heap)
  obtain ⟨m, hn, _⟩ := I6.loc
  have hn : s6.heap.Ns C m := hn
  have cL : C ≠ X.env.locals := fun z => Nat.lt_irrefl _ (Nat.lt_of_lt_of_le (z ▸ I3.lt) hC)
  have cc : ∀ x c, X.env.cells.lookup x = some c → c ≠ C := fun x c e z => by
    obtain ⟨v, o, e', _⟩ := I3.cell x c e
    exact Nat.lt_irrefl _ (Nat.lt_of_lt_of_le (z ▸ Heap.lt_size e') hC)
  show wpAny _ _ (assign (.Name y py) X.env u) _ _ _
  refine wpAny_assign_Name (store_ok2 I hN hi hx r (fun s7 I7 ⟨a, sb, ha⟩ => ?_) hf)
  have aC : C ≠ a := fun z => by
    rcases ha with e | e
    · exact cL (z.trans e)
    · exact cc _ _ e z.symm
  refine ⟨m, hn.sameBut sb aC, fun h' hs' => ?_⟩
  refine ⟨_, H5, I7.turned (it := C) (t' := s7.toks) (fun b o hb e => (hs'.2 b hb).trans e) I6.free cL (.inr (Nat.le_trans I3.sz hC)) cc (fun p hp z => ?_), q⟩
  have := (I3.pin p hp).1
  exact Nat.lt_irrefl _ (Nat.lt_of_lt_of_le (z ▸ Heap.lt_size this) hC)
end
section
variable {K : PySem.W.Frag} {g : TG} {tc : TT} {te : TE} {σ0 : St} {H1 : Hp} {Q : VK}
end
section
variable {X : Cx}
end
end L2
set_option Elab.async false
set_option linter.all false
set_option maxRecDepth 100000
set_option maxHeartbeats 2000000
namespace L2
open PySem PySem.Spec PyProof.Rows
theorem SqL.any {K : PySem.W.Frag} {H : Hp} {a : Addr} {xs : List V} (h : SqL [] H a xs) : SqL K H a xs := by
  rcases h with h | ⟨o, its, n, e, _⟩
  · exact .inl h
  · cases e
theorem SqT.any {K : PySem.W.Frag} {H : Hp} {a : Addr} {xs : List V} (h : SqT [] H a xs) : SqT K H a xs := by
  rcases h with h | ⟨o, its, n, e, _⟩
  · exact .inl h
  · cases e
theorem Sq.any {K : PySem.W.Frag} {H : Hp} {a : Addr} {xs : List V} (h : SqL [] H a xs ∨ SqT [] H a xs) : SqL K H a xs ∨ SqT K H a xs := h.elim (fun h => .inl h.any) fun h => .inr h.any
section
variable {X : Cx}
theorem ix0L : IxR X (rIxL []) := fun value slice pins s σ H x y v u Q I rx ry h => by
  obtain ⟨p, xs, i, w, e1, e2, hq, r, r'⟩ := h
  exact ix_list value slice pins s σ H x y v u Q I rx ry ⟨p, xs, i, w, e1, e2, hq.any, r, r'⟩
theorem ix0T : IxR X (rIxT []) := fun value slice pins s σ H x y v u Q I rx ry h => by
  obtain ⟨p, xs, i, w, e1, e2, hq, r, r'⟩ := h
  exact ix_tup value slice pins s σ H x y v u Q I rx ry ⟨p, xs, i, w, e1, e2, hq.any, r, r'⟩
theorem sl0L : SlR X (rSlL []) := fun pins s σ H x v vl vu lo hi sl Q I rx hs pl pu h => by
  obtain ⟨a, xs, e, hq, r⟩ := h
  exact sl_list pins s σ H x v vl vu lo hi sl Q I rx hs pl pu ⟨a, xs, e, hq.any, r⟩
theorem op0catT : OpR X (binaryOp .Add) (rCatT []) := fun pins s σ H x y v u Q I rx ry h => by
  obtain ⟨a, b, xs, ys, e1, e2, h1, h2, n, z, r0, r⟩ := h
  exact op_catT pins s σ H x y v u Q I rx ry ⟨a, b, xs, ys, e1, e2, h1.any, h2.any, n, z, r0, r⟩
theorem op0catS : OpR X (binaryOp .Add) (rCatS []) := fun pins s σ H x y v u Q I rx ry h => by
  obtain ⟨a, b, xs, ys, e1, e2, h1, h2, z, r⟩ := h
  exact op_catS pins s σ H x y v u Q I rx ry ⟨a, b, xs, ys, e1, e2, h1.any, h2.any, z, r⟩
inductive rLen0 (xs : List V) (H : Hp) (Q : VK) : Prop
  | mk (p : Addr) (ys : List V) (e : xs = [.ref p]) (s : SqL [] H p ys ∨ SqT [] H p ys) (q : Q (.int ys.length) H) : rLen0 xs H Q
theorem call0len : CallR X (.builtin "len") rLen0 := fun pins s σ H xs us Q I r h => by
  obtain ⟨p, ys, e, hq, q⟩ := h
  exact call_len_seq pins s σ H xs us Q I r ⟨p, ys, e, Sq.any hq, q⟩
noncomputable def XN : XK := fun _ _ _ => False
theorem passes0 {P : Program} {w : World} : Passes (CX1 P w) X XN := fun pins σ H s e s' I h => by
  obtain ⟨ea, Cc, d, H', rfl, os, bare, un, hok, _, hE⟩ := h
  exact hE.elim
end
end L2
set_option linter.all false
namespace RF
open PySem L2
end RF
set_option Elab.async false
set_option linter.all false
set_option maxRecDepth 100000
set_option maxHeartbeats 2000000
namespace L2
open PySem PySem.Spec PyProof.Rows
section
variable {X : Cx} {pins : List (Addr × Obj)} {σ : St} {H : Hp} {s : Shared}
theorem comp_loopG {elt iter : Expr} {tg : Expr} {pos : Pos} {scope : Scope} {g : TG} {te : TE} {lv : Nat} {caps : List Nat} {N' : List Str} {fp : List Addr} {it D C : Addr} {tn : Nat → Heap → Prop} {J : It} {H3 : Hp} {s3 s4 : Shared} {Q : VK} {W : Nat → Nat → List V → Hp → Prop} {m0 : Nat}
    (hc : X.calm = true) (T : Turn X.prog X.w X.K tg J fp it tn) (hC : s3.heap.objs.size ≤ C) (I3 : Inv X pins σ H3 s3) (f3 : ∀ b ∈ fp, FpOk X pins H3 b) (hCf : ∀ b ∈ fp, b ≠ C) (I4 : Inv (X.comp scope C N' s3 H3 fp) [] (seen lv caps σ) H3 s4) (st4 : tn 0 s4.heap) (w0 : W 0 m0 [] H3)
    (turn : ∀ i m ys H, W i m ys H → H D = some (.lst ys) ∧ ys.length < sizeLine ∧ ((J.stop i H ∧ Q (.ref D) H) ∨ (J.go i H ∧ ∀ x H', J.yld i H x H' → g x (seen lv caps σ) H' fun σ2 H2 => te σ2 H2 fun v H3 => H3 D = some (.lst ys) ∧
      ∃ m', m' < m ∧ W (i + 1) m' (ys ++ [v]) (upd H3 D (.lst (ys ++ [v]))))))
    (hgk : GKeep g lv caps) (hg : PG (X.comp scope C N' s3 H3 fp) tg g) {xe : Value → Shared → Prop} {R : Result → Shared → Prop}
    (hstop : ∀ H5 s6, Inv (X.comp scope C N' s3 H3 fp) [] (seen lv caps σ) H5 s6 → Q (.ref D) H5 → R (.ok .next) s6)
    (herr : ∀ e s', xe e s' → notedBy (model X.prog X.w) X.A (compEnvC scope (clOf scope X.env) C X.env) (fun e s' => R (.error e) s') e s')
    (he : PE ((X.comp scope C N' s3 H3 fp).wish xe) elt te) :
    codeAny (model X.prog X.w) X.A (.compLoop (.ListComp elt [⟨tg, iter, [], 0⟩] scope pos) 0 (.ref it) (.ref D) (compEnvC scope (clOf scope X.env) C X.env)) R s4 := by
  have stat : ∀ {H' : Hp}, (∀ b ∈ fp, H' b = none) → ∀ b ∈ fp, FpOk (X.comp scope C N' s3 H3 fp) [] H' b := fun {H'} hn b hb =>
    ⟨hn b hb, hCf b hb, fun z => I4.ok.exfs b hb z, .inl hb, fun y c e => (I4.ok.exf b hb).2 y c e, fun p hp => absurd (show p ∈ ([] : List (Addr × Obj)) from hp) (by simp)⟩
  refine compLoop_any (fun n s' => ∃ i ys H', Inv (X.comp scope C N' s3 H3 fp) [] (seen lv caps σ) H' s' ∧ tn i s'.heap ∧ (∀ b ∈ fp, H' b = none) ∧ W i n ys H') ?_ m0 ⟨0, [], _, I4, st4, fun b hb => (f3 b hb).1, w0⟩
  rintro n s5 ⟨i, ys, H5, I5, st5, fr5, w5⟩
  obtain ⟨hD, hlen, hcase⟩ := turn i n ys H5 w5
  rcases hcase with ⟨stop, q⟩ | ⟨go, step⟩
  · refine thn (T.done (X.comp scope C N' s3 H3 fp) rfl rfl rfl hc i [] s5 _ H5 _ I5 (stat fr5) st5 stop) fun r s6 hr => ?_
    obtain ⟨hr, I6⟩ := hr
    subst hr
    exact hstop _ _ I6 q
  · refine thn (T.item (X.comp scope C N' s3 H3 fp) rfl rfl rfl hc i [] s5 _ H5 _ I5 (stat fr5) st5 go) fun r s6 hr => ?_
    obtain ⟨u, hr, h6⟩ := hr
    subst hr
    refine thn h6 fun _ s7 h7 => ?_
    obtain ⟨y, H7, I7, r7, y7, st7, fr7⟩ := h7
    have I7' := I7.pinned (stat fr7) (T.obj _ _ st7)
    refine wpAny_mono (hg _ s7 _ H7 y u _ I7' r7 (hgk σ y H7 _ (step y H7 y7))) (fun _ s8 h8 => ?_) (fun _ _ z => z.elim)
    obtain ⟨σ8, H8, I8, q8, ks⟩ := h8
    refine wpAny_mono (he _ s8 σ8 H8 _ (I8.wish _) q8) (fun v s9 h9 => ?_) (fun e s9 z => herr e s9 z)
    obtain ⟨z9, H9, I9, r9, hD9, m', hm', w9⟩ := h9
    have I9 := I9.unwish
    refine wpAny_mono (mt_append (X := X.comp scope C N' s3 H3 fp) _ s9 σ8 H9 (.ref D) [z9] (.ref D) [v] (fun _ H' => H' = upd H9 D (.lst (ys ++ [z9]))) I9 rfl (.cons r9 .nil) ⟨D, ys, z9, rfl, rfl, hD9, hlen, rfl⟩) (fun _ s10 h10 => ?_) (fun _ _ z => z.elim)
    obtain ⟨_, H10, I10, _, rfl⟩ := h10
    refine ⟨m', hm', i + 1, ys ++ [z9], _, I10.unpinned.weak ?_ ?_, T.keep _ _ _ st7 fun b hb o e => (I10.pin (b, o) (List.mem_append_right _ (List.mem_append_right _ (mem_pinsAt hb e)))).1, fun b hb => ?_, w9⟩
    · rw [I10.len]; exact I4.len
    · exact ks
    · obtain ⟨o, e, d⟩ := T.obj _ _ st7 b hb
      exact (I10.pin (b, o) (List.mem_append_right _ (List.mem_append_right _ (mem_pinsAt hb e)))).2.1
theorem ps_setC {elt iter : Expr} {tg : Expr} {pos spos py : Pos} {i : Nat} {y : Str} {scope : Scope} {wi : TI} {g : TG} {te : TE} {lv : Nat} {caps : List Nat} {N' : List Str} {xe : Addr → Shared → Hp → List Addr → Value → Shared → Prop} (herr : ∀ (pins : List (Addr × Obj)) (σ : St) (H3 : Hp) (s3 : Shared) (C : Addr) (fp : List Addr) (Q : Value → Shared → Prop) (acc e : Value) (s' : Shared), Inv X pins σ H3 s3 → (∀ b ∈ fp, FpOk X pins H3 b) → s3.heap.objs.size ≤ C → xe C s3 H3 fp e s' →
      notedBy (model X.prog X.w) X.A (compEnvC scope (clOf scope X.env) C X.env) (fun e s' => compPost (model X.prog X.w) X.A X.xe (some (assign (.Name y py) X.env)) Q acc C (.error e) s') e s')
    (hN : X.N.Nodup) (hi' : X.N[i]? = some y) (hx : Loc X.env.scope y) (hc : X.calm = true) (ok : CompOk X scope lv caps N') (hgk : GKeep g lv caps) (hi : PI X tg iter wi)
    (hg : ∀ C s H fp, PG (X.comp scope C N' s H fp) tg g) (he : ∀ C s H fp, PE ((X.comp scope C N' s H fp).wish (xe C s H fp)) elt te) (hs : ∀ y, foldedSetIterable iter X.env y = pure y := by intro _; rfl)
    (hsw : swapsWith (.ListComp elt [⟨tg, iter, [], 0⟩] scope pos) (some (.Name y py)) spos.line X.env = pure true := by rfl) (hf : X.fn y = true ∨ X.env.scope.names.lookup y = some .local := by first | exact .inl rfl | exact .inr rfl | assumption) :
    PS X (.Assign [.Name y py] (.ListComp elt [⟨tg, iter, [], 0⟩] scope pos) spos) (tAsg (tComp wi g te lv caps) (gName i)) := by
  intro pins s σ H E I h
  rw [exec_Assign_Name_used _ _ _ _ hsw]
  refine wpAny_bind (wpAny_standAt (wpAny_bind ?_))
  show wpAny _ _ (do let _ ← comprehension (.ListComp elt [⟨tg, iter, [], 0⟩] scope pos) scope X.env _ (newList []) false (eval iter X.env) (some (assign (.Name y py) X.env))) _ _ s
  refine wpAny_bind (thn (wpAny_comprehension_free (use := some (assign (.Name y py) X.env)) (Q := fun _ s' => SP X pins E .next s') rfl hs (closure_eq fun y hy hk => I.ok.has y.1 (ok.free y hy hk)) ok.kind ok.loc (thn (hi pins s σ H _ I h) fun v s1 h1 => thn h1 fun itv s2 h2 => ?_)) fun _ s' hq => wpAny_pure (wpAny_pure hq))
  obtain ⟨it, fp, tn, J, H2, e, I2, T, st2, f2, hW⟩ := h2
  subst e
  have fpl : ∀ b ∈ fp, b < s2.heap.objs.size := fun b hb => by obtain ⟨o, e, _⟩ := T.obj 0 _ st2 b hb; exact Heap.lt_size e
  refine wpAny_newObj_type ?_
  have I3 : Inv X pins σ (upd H2 s2.heap.objs.size (.lst [])) { s2 with heap := s2.heap.push { cls := .type "list", data := .seq ([] : List Value).toArray }, toks := s2.toks } := I2.lnew (its := []) .nil (Nat.zero_le _)
  obtain ⟨W, ⟨m0, w0⟩, turn⟩ := hW s2.heap.objs.size I2.fresh
  refine wpAny_newFunctionEnv ok.cell (by intro y hy; simp at hy) (fun h₁ hns₁ hsb₁ => ?_) ok.kind
  have hk3 : ∀ b o, (s2.heap.push { cls := .type "list", data := .seq ([] : List Value).toArray }).get? b = some o → h₁.get? b = some o := fun b o q =>
    (hsb₁.2 b (Nat.ne_of_lt (Heap.lt_size q))).trans (Heap.get?_push_of_some _ q)
  have f3 : ∀ b ∈ fp, FpOk X pins (upd H2 s2.heap.objs.size (.lst [])) b := fun b hb => by
    obtain ⟨n, r⟩ := f2 b hb
    exact ⟨by rw [upd_ne (Nat.ne_of_lt (fpl b hb))]; exact n, r⟩
  have fpl3 : ∀ b ∈ fp, b < (s2.heap.push { cls := .type "list", data := .seq ([] : List Value).toArray }).objs.size := fun b hb => by rw [Heap.size_push]; exact Nat.lt_succ_of_lt (fpl b hb)
  have I4 := inv_comp ok I3 f3 hns₁ hk3 fpl3 (s2.toks + 0)
  have st4 : tn 0 h₁ := T.keep _ _ _ st2 fun b hb o q => hk3 b o (Heap.get?_push_of_some _ q)
  have loop := comp_loopG (Q := fun v H' => E.nx (σ.set i (some v)) H') (D := s2.heap.objs.size) (elt := elt) (iter := iter) (pos := pos) (s4 := { s2 with heap := h₁, toks := s2.toks + 0 }) hc T (Nat.le_refl _) I3 f3 (fun b hb => Nat.ne_of_lt (fpl3 b hb)) I4 st4 w0 turn hgk (hg _ _ _ _) (R := compPost (model X.prog X.w) X.A X.xe (some (assign (.Name y py) X.env)) (fun _ s' => SP X pins E .next s') (.ref s2.heap.objs.size) _) (fun H5 s6 I6 q => comp_use (v := .ref s2.heap.objs.size) (Nat.le_refl _) I3 f3 hN hi' hx hf I6 rfl q) (fun e s' z => herr _ _ _ _ _ _ _ _ e s' I3 f3 (Nat.le_refl _) z) (he _ _ _ _)
  exact codeAny_compStart_list loop (T.self _ 0 _ _ _ st4 loop)
inductive rList0 (xs : List V) (H : Hp) (Q : VK) : Prop
  | mk (p : Addr) (ys : List V) (e : xs = [.ref p]) (s : SqL [] H p ys ∨ SqT [] H p ys) (q : ∀ l, H l = none → Q (.ref l) (upd H l (.lst ys))) : rList0 xs H Q
theorem call0list : CallR X (.type "list") rList0 := fun pins s σ H xs us Q I r h => by
  obtain ⟨p, ys, e, hq, q⟩ := h
  exact call_list_of pins s σ H xs us Q I r ⟨p, ys, e, Sq.any hq, q⟩
end
end L2
set_option Elab.async false
set_option linter.all false
set_option maxRecDepth 100000
set_option maxHeartbeats 2000000
namespace L2
open PySem PySem.Spec PyProof.Rows
section
variable {prog : Program} {w : World} {A : Around} {E : Value → Shared → Prop} {s : Shared}
open AutoSeq1 (wpAny_loadPart') in
end
section
variable {X : Cx} {els : List Expr} {x1 : Nat} {tpos : Pos}
end
end L2
set_option linter.all false
set_option maxRecDepth 100000
namespace L2
open PySem PySem.Spec PyProof.Rows
section
variable {X : Cx}
end
end L2
set_option linter.all false
set_option maxRecDepth 100000
namespace L2
open PySem PySem.Spec PyProof.Rows
section
variable {prog : Program} {w : World} {A : Around} {E : Value → Shared → Prop} {s : Shared} {l : Addr} {xs : Array (Int × Tok)}
end
section
variable {X : Cx}
theorem cat_tup0 {prog : Program} {w : World} {A : Around} {E : Value → Shared → Prop} {s : Shared} {t b : Addr} {ws : List Value} {Q : Value → Shared → Prop} (ht : IsTup s.heap t ([] : List Value).toArray) (hb : IsTup s.heap b ws.toArray) (h1 : Q (.ref b) s) :
    wpAny (model prog w) A (binaryOp .Add (.ref t) (.ref b)) Q E s := by
  obtain ⟨⟨cls, dd, data, sl⟩, ho, hc, n, hd⟩ := id ht
  obtain ⟨⟨cls2, dd2, data2, sl2⟩, ho2, hc2, n2, hd2⟩ := id hb
  simp only at hc hd hc2 hd2
  subst hc hd hc2 hd2
  exact concat_meets ⟨_, ho, rfl⟩ ⟨_, ho2, rfl⟩ noFill_tuple_add seq_tuple_add PySem.F.slot_tuple_add PySem.F.entry_tuple_add (PySem.F.args_tuple_add_2 _ _)
      (tuple_addW0 t b ([] : List Value).toArray ws.toArray n n2 dd dd2 sl sl2 rfl) ⟨ho, ho2, h1⟩
end
end L2
set_option Elab.async false
set_option linter.all false
set_option maxRecDepth 100000
set_option maxHeartbeats 2000000
namespace L2
open PySem PySem.Spec PyProof.Rows
section
variable {X : Cx} {pins : List (Addr × Obj)} {σ : St} {H : Hp} {s : Shared}
end
inductive rCatTP (x y : V) (H : Hp) (Q : VK) : Prop
  | mk (a b : Addr) (xs ys : List V) (ex : x = .ref a) (ey : y = .ref b) (s : H a = some (.tup xs)) (s' : H b = some (.tup ys)) (z : xs.length + ys.length ≤ sizeLine)
      (q : ∀ p H', Same H H' → H' p = some (.tup (xs ++ ys)) → Q (.ref p) H') : rCatTP x y H Q
theorem op0catTP {X : Cx} : OpR X (binaryOp .Add) rCatTP := fun pins s σ H x y v u Q I rx ry h => by
  obtain ⟨a, b, xs, ys, rfl, rfl, h1, h2, z, q⟩ := h
  by_cases hx : xs = []
  · subst hx
    cases rx
    cases ry
    obtain ⟨its, r1, p1, _⟩ := I.tuple (SqT.of h1)
    obtain ⟨its2, r2, p2, _⟩ := I.tuple (SqT.of h2)
    cases r1
    exact cat_tup0 p1 p2 ⟨.ref b, H, I, rfl, q b H (Same.refl H) h2⟩
  · refine op_catT pins s σ H _ _ v u Q I rx ry ⟨a, b, xs, ys, rfl, rfl, SqT.of h1, SqT.of h2, hx, z, fun hy => ?_, fun _ p hp => ?_⟩
    · subst hy
      exact q a H (Same.refl H) (by rw [List.append_nil]; exact h1)
    · exact q p _ (Same.new hp) upd_same
end L2
set_option Elab.async false
set_option linter.all false
set_option maxRecDepth 100000
set_option maxHeartbeats 2000000
namespace L2
open PySem PySem.Spec PyProof.Rows
noncomputable def StrIn (z' z : Str) : Prop := ∀ c ∈ z'.cps.toList, c ∈ z.cps.toList
noncomputable def cutS (z : Str) (lo hi : Option Int) : Str := if ((Builtin.Str.strSliceIndices lo hi 1 z.length).length == z.length) = true then z else ⟨((Builtin.Str.strSliceIndices lo hi 1 z.length).filterMap (z.cps[·]?)).toArray⟩
section
variable {X : Cx}
inductive rSlS (x : V) (lo hi : Option Int) (H : Hp) (Q : VK) : Prop
  | mk (z : Str) (e : x = .str z) (hz : z.length ≤ sizeLine) (q : (cutS z lo hi).length ≤ z.length → StrIn (cutS z lo hi) z → Q (.str (cutS z lo hi)) H) : rSlS x lo hi H Q
theorem sl_str : SlR X rSlS := by
  intro pins s σ H x v vl vu lo hi sl Q I rx hs pl pu h
  obtain ⟨z, rfl, hz, q⟩ := h
  obtain ⟨t, rfl⟩ := rx
  refine ⟨"str", _, PySem.F.slot_str_getitem.lookup, typeIs_str s z t, ?_⟩
  have part : ∀ {v : Value} {p : Option Int}, IsPart v p → ∃ l : Option (Int × Tok), v = partValue l ∧ p = l.map (·.1) := by
    intro v p h
    cases h with
    | none => exact ⟨none, rfl, rfl⟩
    | int i t => exact ⟨some (i, t), rfl, rfl⟩
  obtain ⟨l, rfl, el⟩ := part pl
  obtain ⟨u, rfl, eu⟩ := part pu
  obtain ⟨o, ho, hc, hd⟩ := hs
  refine wpAny_getItem_str_slice (l := l) (u := u) (st := none) ⟨o, ho, hc, hd⟩ rfl ?_
  have ep : slicePicked z l u none = Builtin.Str.strSliceIndices lo hi 1 z.length := by unfold slicePicked; rw [el, eu]; rfl
  unfold sliceMade
  rw [ep]
  by_cases hw : ((Builtin.Str.strSliceIndices lo hi 1 z.length).length == z.length) = true
  · have ez : cutS z lo hi = z := if_pos hw
    rw [ez] at q
    rw [if_pos (by rw [hw]; rfl)]
    exact ⟨.str z, H, I, ⟨_, rfl⟩, q (Nat.le_refl _) fun _ h => h⟩
  · have ez : cutS z lo hi = ⟨((Builtin.Str.strSliceIndices lo hi 1 z.length).filterMap (z.cps[·]?)).toArray⟩ := if_neg hw
    rw [ez] at q
    rw [if_neg (by intro h; exact hw (by simpa using h))]
    have hl : (⟨((Builtin.Str.strSliceIndices lo hi 1 z.length).filterMap (z.cps[·]?)).toArray⟩ : Str).length ≤ z.length := by
      show (List.filterMap _ (Builtin.Str.strSliceIndices lo hi 1 z.length)).toArray.size ≤ z.length
      rw [List.size_toArray]
      exact Nat.le_trans (List.length_filterMap_le _ _) (indices_len_le _ _ z.length)
    refine ⟨Nat.le_trans hl hz, .str _, H, I.tok _, ⟨_, rfl⟩, q hl fun c hc => ?_⟩
    have hc : c ∈ ((Builtin.Str.strSliceIndices lo hi 1 z.length).filterMap (z.cps[·]?)).toArray.toList := hc
    obtain ⟨j, _, e⟩ := List.mem_filterMap.mp (by simpa using hc)
    exact Array.mem_toList_iff.mpr (Array.mem_of_getElem? e)
end
end L2
set_option linter.all false
set_option maxRecDepth 100000
set_option Elab.async false
set_option linter.all false
set_option maxRecDepth 100000
namespace L2
open PySem PySem.Spec PyProof.Rows
end L2
namespace L2
open PySem PySem.Spec PyProof.Rows
section
variable (P : Program) (w : World)
end
section
variable {P : Program} {w : World} {H H' : Hp} {h h' : Heap} {a : Addr} {o : HO}
end
section
variable {P : Program} {w : World} {H : Hp} {h h' : Heap} {x e : Addr} {o' : HO}
end
section
variable {fs fs' ex ex' : List Addr} {H H1 H2 : Hp} {h h1 h2 h' : Heap} {a x e : Addr} {o : HO}
end
end L2
namespace L2
open PySem PySem.Spec PyProof.Rows
section
variable {X : Cx} {pins : List (Addr × Obj)} {σ : List (Option V)} {H H' : Hp} {s : Shared} {h' : Heap}
end
end L2
namespace L2
open PySem PySem.Spec PyProof.Rows
section
variable {X : Cx}
variable {a b : Expr} {ta tb : TE} {pos : Pos}
variable {tA tB' : TT} {rest : List Expr}
end
end L2
namespace L2
open PySem PySem.Spec PyProof.Rows
section
variable {X : Cx} {pins : List (Addr × Obj)} {σ : St} {H : Hp} {s : Shared} {a : Addr} {xs ys : List V}
end
section
variable {X : Cx} {pins : List (Addr × Obj)} {σ : St} {H : Hp} {s : Shared} {E : Value → Shared → Prop}
end
section
variable {X : Cx} {st : Stmt} {rest : List Stmt} {t u : TS} {e : Expr} {te : TE} {pos : Pos}
end
section
variable {X : Cx} {pos : Pos}
end
section
variable {X : Cx} {pos : Pos}
end
end L2
namespace L2
open PySem PySem.Spec PyProof.Rows
section
variable {X : Cx} {tg : Expr}
end
end L2
namespace L2
open PySem PySem.Spec PyProof.Rows
section
variable {X : Cx} {a b c : Expr} {ta tb tc : TE} {pos : Pos}
end
section
variable {X : Cx} {a b c : Expr} {ta tb tc : TE} {pos : Pos}
end
end L2
namespace L2
open PySem PySem.Spec PyProof.Rows
section
variable {prog : Program} {w : World} {A : Around} {E : Value → Shared → Prop} {s : Shared} {K : PySem.W.Frag} {x dx C f : Addr} {mA : Str → Option Value} {name : Str} {v : Value}
end
section
variable {P : Program} {w : World} {H H' : Hp} {h h' : Heap} {a C dx : Addr} {fs fs' : List (Str × V)}
end
section
variable {X : Cx} {pins : List (Addr × Obj)} {σ : St} {H : Hp} {s : Shared} {a C dx : Addr} {fs : List (Str × V)} {f : Str} {v : V} {A : Around} {E : Value → Shared → Prop}
end
section
variable {X : Cx} {o e value : Expr} {f : Str} {pos pos' tpos : Pos} {ta tv : TE}
end
section
variable {X : Cx} {pins : List (Addr × Obj)} {σ : St} {H : Hp} {s : Shared} {A : Around} {E : Value → Shared → Prop} {Q : Value → Shared → Prop} {c : Value} {b : Bool}
end
end L2
namespace L2
open PySem PySem.Spec PyProof.Rows
section
variable {X : Cx} {e : Expr} {es : List Expr} {te : TE} {t : TA} {pos : Pos}
end
section
variable {X : Cx} {pins : List (Addr × Obj)} {σ : St} {H : Hp} {s s' : Shared}
end
section
variable {X : Cx} {CX : CXT} {k : Nat} {f C : Addr} {fd : FuncData} {ps : List Str} {sp : Sp} {dvs : List V} {ds : List Value} {E : XK} {x m : Str} {p pos apos : Pos} {e o : Expr} {es : List Expr} {ta : TE} {t : TA}
end
section
variable {X : Cx} {CX : CXT} {k : Nat} {f C : Addr} {fd : FuncData} {ps ks : List Str} {sp : Sp} {E : XK} {x m : Str} {p pos apos kpos : Pos} {e o : Expr} {es : List Expr} {kws : List Keyword} {te ta : TE} {t tk : TA} {nm : Option Str}
variable {g : List Value → List Value → List Value} {gV : List V → List V → List V}
end
end L2
namespace L2
open PySem PySem.Spec PyProof.Rows
section
variable {X : Cx} {x : Str} {p pos : Pos} {e : Expr} {es : List Expr} {t : TA} {id T : String} {r : List V → Hp → VK → Prop}
end
end L2
namespace L2
open PySem PySem.Spec PyProof.Rows
section
variable {κ : Type} [DecidableEq κ]
end
section
variable {P : Program} {w : World} {H : Hp} {h : Heap} {a : Addr}
end
section
variable {X : Cx} {pins : List (Addr × Obj)} {σ : St} {H : Hp} {s : Shared} {a : Addr} {y v : V} {u r : Value} {o : Option V} {A : Around} {E : Value → Shared → Prop}
end
section
variable {X : Cx} {pins : List (Addr × Obj)} {σ : St} {H : Hp} {s : Shared} {a : Addr} {kvs : List (Key × V)} {k : Key} {u : Value} {A : Around} {E : Value → Shared → Prop}
end
section
variable {X : Cx} {o i e value : Expr} {pos pos' tpos : Pos} {td ty tv : TE}
end
section
variable {X : Cx} {pos : Pos}
end
section
variable {X : Cx} {pins : List (Addr × Obj)} {σ : St} {H : Hp} {s : Shared} {a : Addr} {y d : V} {u r : Value} {o : Option V} {A : Around} {E : Value → Shared → Prop}
end
section
variable {X : Cx} {o e f : Expr} {apos cpos : Pos} {td ty tx : TE}
end
section
variable {X : Cx} {pins : List (Addr × Obj)} {σ : St} {H : Hp} {s : Shared} {a : Addr} {kvs : List (Key × V)} {A : Around} {E : Value → Shared → Prop}
end
section
variable {X : Cx} {pins : List (Addr × Obj)} {σ : St} {H : Hp} {s : Shared} {a : Addr} {y : V} {u : Value} {A : Around} {E : Value → Shared → Prop}
end
end L2
namespace Att
open PySem PySem.W PySem.Calls PyProof.Rows
section
variable {prog : Program} {w : World} {A : Around} {E : Value → Shared → Prop} {s : Shared} {K : Frag}
end
end Att
namespace L2
open PySem PySem.Spec PyProof.Rows
end L2
namespace L2
open PySem PySem.Spec PyProof.Rows
end L2
namespace L2
open PySem PySem.Spec PyProof.Rows
section
variable {P : Program} {w : World} {K : PySem.W.Frag} {mg : Str → Option Value} {base : Heap}
end
section
variable {X : Cx}
end
section
variable {κ : Type} [DecidableEq κ]
end
end L2
set_option linter.all false
namespace RF
open PySem L2
end RF
set_option Elab.async false
set_option linter.all false
set_option maxRecDepth 100000
set_option maxHeartbeats 2000000
namespace L2
open PySem PySem.Spec PyProof.Rows
section
variable {X : Cx}
end
end L2
set_option Elab.async false
set_option linter.all false
set_option maxRecDepth 100000
set_option maxHeartbeats 2000000
namespace L2
open PySem PySem.Spec PyProof.Rows Builtin Builtin.ObjectAttr
section
variable {prog : Program} {w : World} {A : Around} {E : Value → Shared → Prop} {h : Heap} {g : Array GenState} {d : Drawn} {t : Nat} {os : OsState}
variable {nm q : Str} {C N : Addr} {bs bm bmB : List Value} {hdct : Bool} {sn : List Str} {sub : List Value} {ab : Bool} {col : Option Bool} {dd : Option Addr} {k0 k1 k2 k3 k5 : Option Value} {B newId initId : String}
noncomputable abbrev argT (us : List Value) : Obj := { cls := .type "tuple", data := .seq us.toArray }
noncomputable abbrev excO (C t : Addr) : Obj := { cls := .ref C, data := .fields #[.ref t, .none, .none, .none, .bool false, .none] }
theorem type_call_initT (F : ExcBaseFacts B newId initId bmB) (T : OwnTail h bmB bm) {mN : Str → Option Value} {rest : List Value} {fI : Addr} {oI : Obj} {Q : Fin → Shared → Prop}
    (hC : h.get? C = some (excClassObj nm q C N bs bm hdct sn sub ab col dd k0 k1 k2 k3 k5 newId)) (hn : h.Ns N mN) (hi : mN "__init__" = some (.ref fI)) (hfI : h.get? fI = some oI) (hfc : oI.cls = .type "function") (hrest : rest.length ≤ sizeLine)
    (hq : wpAny (model prog w) A (call (.ref fI) (.ref (h.objs.size + 1) :: rest)) (fun r s' => r = .none ∧ Q (.done (.ret (.ref (h.objs.size + 1)))) s') E ⟨(h.push (argT rest)).push (excO C h.objs.size), g, d, t, os⟩) :
    wpAny (model prog w) A (Builtin.«type.__call__» ⟨.ref C :: rest, []⟩) Q E ⟨h, g, d, t, os⟩ := by
  repeat (first | with_reducible refine wpAny_loadPart_at hC ?_ | with_reducible refine wpAny_madeBy_exc hC ?_ | wp_step)
  refine codeAny_call_builtin_code (Code.quiet_builtin _ F.quiet) (wpAny_check_new_subT F T hC ?_)
  refine codeAny_exc_new_subT F T hC ?_ hrest
  show wpAny _ _ _ _ _ _
  have kp : ∀ b o, h.get? b = some o → ((h.push { cls := .type "tuple", data := .seq rest.toArray }).push { cls := .ref C, data := .fields #[.ref h.objs.size, .none, .none, .none, .bool false, .none] }).get? b = some o := fun b o e => Heap.get?_push_of_some _ (Heap.get?_push_of_some _ e)
  have hC₁ := kp _ _ hC
  have hfI₁ := kp _ _ hfI
  have hn₁ : ((h.push { cls := .type "tuple", data := .seq rest.toArray }).push { cls := .ref C, data := .fields #[.ref h.objs.size, .none, .none, .none, .bool false, .none] }).Ns N mN := let ⟨o, es, ep, e, r⟩ := hn; ⟨o, es, ep, kp _ _ e, r⟩
  have hget : ((h.push { cls := .type "tuple", data := .seq rest.toArray }).push { cls := .ref C, data := .fields #[.ref h.objs.size, .none, .none, .none, .bool false, .none] }).get? (h.objs.size + 1) = some { cls := .ref C, data := .fields #[.ref h.objs.size, .none, .none, .none, .bool false, .none] } := by heap_get
  have hcC : (Value.ref C :: bm).contains (.ref C) = true := by simp
  unfold isInstance
  repeat (first | with_reducible refine wpAny_loadPart_at hget ?_ | (with_reducible refine wpAny_isSubtype_exc hC₁ ?_; rw [hcC]) | wp_step)
  show wpAny _ _ (typeLookup (.ref C) _) _ _ _
  refine wpAny_typeLookup_tail hC₁ hn₁ (T.keeps kp) F.mroIs F.init.lookup ?_
  rw [hi]
  refine wpAny_holding (wpAny_bind ?_)
  unfold bindSpecial
  refine wpAny_bind (wpAny_typeOf (T := "function") ⟨_, hfI₁, hfc⟩ ?_)
  rw [if_pos (by decide)]
  refine wpAny_pure (wpAny_bind (wpAny_mono hq (fun r s' hr => ?_) fun _ _ x => x))
  obtain ⟨rfl, hQ⟩ := hr
  wp_walk
  exact hQ
theorem call_exc_initT (F : ExcBaseFacts B newId initId bmB) (T : OwnTail h bmB bm) {mN : Str → Option Value} {rest : List Value} {fI : Addr} {oI : Obj} {Q : Value → Shared → Prop}
    (hC : h.get? C = some (excClassObj nm q C N bs bm hdct sn sub ab col dd k0 k1 k2 k3 k5 newId)) (hn : h.Ns N mN) (hi : mN "__init__" = some (.ref fI)) (hfI : h.get? fI = some oI) (hfc : oI.cls = .type "function") (hrest : rest.length ≤ sizeLine)
    (hq : wpAny (model prog w) (A.under (.builtin "type.__call__" ⟨.ref C :: rest, []⟩)) (call (.ref fI) (.ref (h.objs.size + 1) :: rest)) (fun r s' => r = .none ∧ Q (.ref (h.objs.size + 1)) s') E ⟨(h.push (argT rest)).push (excO C h.objs.size), g, d, t, os⟩) :
    wpAny (model prog w) A (call (.ref C) rest) Q E ⟨h, g, d, t, os⟩ := by
  have f1 := tc_lookup
  have f2 := tc_bind (.ref C)
  have hT : (⟨h, g, d, t, os⟩ : Shared).TypeIs (.ref C) "type" := ⟨_, hC, rfl⟩
  refine wpAny_call (codeAny_of_tree ?_)
  show wpAny _ _ (callAny (.ref C) _) _ _ _
  repeat (any_goals (first | assumption | with_reducible refine wpAny_loadPart_at hC ?_ | wp_step))
  refine ⟨rfl, ?_⟩
  exact codeAny_call_builtin_at (Code.quiet_builtin _ (by decide +kernel)) entry_typeCall (wpAny_check_type_call_sub hC (type_call_initT F T hC hn hi hfI hfc hrest hq))
end
section
variable {M : Model} {A : Around} {E : Value → Shared → Prop} {s : Shared} {env : Env}
variable {nm q : Str} {C N : Addr} {bs bm : List Value} {hdct : Bool} {sn : List Str} {sub : List Value} {ab : Bool} {col : Option Bool} {dd : Option Addr} {k0 k1 k2 k3 k5 : Option Value} {newId : String}
theorem raise_exc {x : Sem Value} {Q : Flow → Shared → Prop} (hbase : bm.contains (.type "BaseException") = true) (hh : A.handled = none)
    (h : wpAny M A x (fun v s₁ => ∃ e oe vs, v = .ref e ∧ s₁.heap.get? C = some (excClassObj nm q C N bs bm hdct sn sub ab col dd k0 k1 k2 k3 k5 newId) ∧ s₁.heap.get? e = some oe ∧ oe.cls = .ref C ∧ oe.data = .fields vs ∧ vs[1]? = some .none ∧ E (.ref e) s₁) E s) :
    wpAny M A (raiseStmt env (some x) none) Q E s := by
  have hcB : (Value.ref C :: bm).contains (.type "BaseException") = true := by rw [List.contains_cons, hbase, Bool.or_true]
  unfold raiseStmt
  refine wpAny_bind (wpAny_mono h (fun v s₁ h₁ => ?_) fun _ _ x => x)
  obtain ⟨e, oe, vs, rfl, hC, he, hcl, hd, h1, hE⟩ := h₁
  obtain ⟨hp, g, d, tk, os⟩ := s₁
  obtain ⟨oc, od, oda, osl⟩ := oe
  dsimp only at hcl hd he hE
  subst hcl hd
  repeat (first | with_reducible refine wpAny_loadPart_at he ?_ | with_reducible refine wpAny_loadPart_at hC ?_ | (with_reducible refine wpAny_isSubtype_exc hC ?_; rw [hcB]) | wp_step)
  rw [h1]
  refine wpAny_pure ?_
  rw [if_neg (by decide)]
  exact wpAny_pure (wpAny_raiseNew_none hh hE)
end
section
variable {prog : Program} {w : World} {A : Around} {E : Value → Shared → Prop} {s : Shared} {env : Env}
variable {nm q : Str} {C N : Addr} {bs bm bmB : List Value} {hdct : Bool} {sn : List Str} {sub : List Value} {ab : Bool} {col : Option Bool} {dd : Option Addr} {k0 k1 k2 k3 k5 : Option Value} {B newId initId : String}
theorem Raise_initT (F : ExcBaseFacts B newId initId bmB) {mN : Str → Option Value} {x : Str} {np cpos pos : Pos} {args : List Expr} {fI : Addr} {oI : Obj} {Q : Flow → Shared → Prop}
    (hbase : bm.contains (.type "BaseException") = true) (hh : A.handled = none) (hplain : (backTo cpos (starEach args env)).any (·.1) = false) (hi : mN "__init__" = some (.ref fI)) (hfc : oI.cls = .type "function")
    (h : wpAny (model prog w) A (eval (.Name x np) env) (fun f s₁ => f = .ref C ∧ wpAny (model prog w) A (evalArgs (.ref C) true (backTo cpos (starEach args env)) [])
      (fun a s₂ => a.kw = [] ∧ a.pos.length ≤ sizeLine ∧ s₂.heap.get? C = some (excClassObj nm q C N bs bm hdct sn sub ab col dd k0 k1 k2 k3 k5 newId) ∧ s₂.heap.Ns N mN ∧ OwnTail s₂.heap bmB bm ∧ s₂.heap.get? fI = some oI ∧
        wpAny (model prog w) (A.under (.builtin "type.__call__" ⟨.ref C :: a.pos, []⟩)) (call (.ref fI) (.ref (s₂.heap.objs.size + 1) :: a.pos))
          (fun r s' => r = .none ∧ ∃ oe vs, s'.heap.get? C = some (excClassObj nm q C N bs bm hdct sn sub ab col dd k0 k1 k2 k3 k5 newId) ∧ s'.heap.get? (s₂.heap.objs.size + 1) = some oe ∧ oe.cls = .ref C ∧ oe.data = .fields vs ∧ vs[1]? = some .none ∧ E (.ref (s₂.heap.objs.size + 1)) s') E
          { s₂ with heap := (s₂.heap.push (argT a.pos)).push (excO C s₂.heap.objs.size) }) E s₁) E s) :
    wpAny (model prog w) A (exec (.Raise (some (.Call (.Name x np) args [] cpos)) none pos) env) Q E s := by
  rw [arm_exec_Raise]
  refine wpAny_bind (wpAny_standAt (raise_exc (C := C) (nm := nm) (q := q) (N := N) (bs := bs) (bm := bm) (hdct := hdct) (sn := sn) (sub := sub) (ab := ab) (col := col) (dd := dd) (k0 := k0) (k1 := k1) (k2 := k2) (k3 := k3) (k5 := k5) (newId := newId) hbase hh ?_))
  refine wpAny_bind (wpAny_mono (wpAny_Call_ofName (wpAny_mono h (fun f s₁ h₁ => ?_) fun _ _ x => x)) (fun v s₃ h₃ => wpAny_bind (wpAny_standAt (wpAny_pure h₃))) fun _ _ x => x)
  obtain ⟨rfl, h₁⟩ := h₁
  unfold callWith
  refine wpAny_bind (wpAny_holding (wpAny_mono h₁ (fun a s₂ h₂ => wpAny_bind (wpAny_standAt ?_)) fun _ _ x => x))
  obtain ⟨apos, akw⟩ := a
  obtain ⟨hkw, hlen, hC, hn, T, hfI, h₂⟩ := h₂
  obtain rfl : akw = [] := hkw
  obtain ⟨hp, g, d, tk, os⟩ := s₂
  simp only [hplain]
  refine wpAny_bind (wpAny_keeperOf_exc hC ?_)
  refine wpAny_bind (call_exc_initT F T hC hn hi hfI hfc hlen (wpAny_mono h₂ (fun r s' hr => ?_) fun _ _ x => x))
  obtain ⟨rfl, oe, vs, c1, c2, c3, c4, c5, c6⟩ := hr
  exact ⟨rfl, wpAny_bind (wpAny_holding (wpAny_point (wpAny_pure ⟨_, oe, vs, rfl, c1, c2, c3, c4, c5, c6⟩)))⟩
end
noncomputable def excInI (K : PySem.W.Frag) (C fI : Addr) (bmB : List Value) (newId : String) : Bool := match K.lookup C with
  | some ⟨.type "type", _, .cls cd, sl⟩ => (match cd.mro, sl.toList with
    | .ref C' :: bm, [_, _, _, _, some (.builtin n), _] => C' == C && n == newId && !cd.hasDel && PySem.W.tailIn K bmB bm && PySem.W.nsOkIn K cd.ns && PySem.W.nsIn K cd.ns "__init__" == some (some (.ref fI))
    | _, _ => false)
  | _ => false
theorem ns_some_of {K : PySem.W.Frag} {h : Heap} {N : Addr} {mg : Str → Option Value} {n : Str} {v : Value} (X : K.In h) (G : h.Ns N mg) (e : PySem.W.nsIn K N n = some (some v)) : mg n = some v := by
  obtain ⟨o, es, ep, ho, hd, _, hf⟩ := G
  unfold PySem.W.nsIn at e
  split at e
  · rename_i c d es' n' sl q
    have := X _ _ q
    rw [ho] at this
    cases this
    cases hd
    split at e
    · rename_i en he
      cases e
      rw [← hf]
      unfold nsFind findBy
      rw [← Array.find?_toList, he]
      rfl
    · split at e <;> cases e
  · cases e
theorem exc_objI {K : PySem.W.Frag} {h : Heap} {C fI : Addr} {bmB : List Value} {newId : String} (X : K.In h) (q : excInI K C fI bmB newId = true) :
    ∃ bm N nm qn bs hdct sn sub ab col dd k0 k1 k2 k3 k5 mN, h.get? C = some (excClassObj nm qn C N bs bm hdct sn sub ab col dd k0 k1 k2 k3 k5 newId) ∧ h.Ns N mN ∧ mN "__init__" = some (.ref fI) ∧ OwnTail h bmB bm := by
  unfold excInI at q
  split at q
  next dd cd sl ho =>
    split at q
    next C' bm k0 k1 k2 k3 n k5 hm hs =>
      simp only [Bool.and_eq_true, beq_iff_eq, Bool.not_eq_true'] at q
      obtain ⟨⟨⟨⟨⟨e1, e2⟩, hdel⟩, ht⟩, hok⟩, hni⟩ := q
      subst e1; subst e2
      obtain ⟨nm, bs, mro, ns, qn, hd, sn, sub, ab, col, del⟩ := cd
      dsimp only at hm hdel hok hni
      subst hm hdel
      obtain rfl : sl = #[k0, k1, k2, k3, some (.builtin n), k5] := by
        cases sl with
        | mk l => exact congrArg Array.mk hs
      have hns : h.Ns ns (h.nsMap ns) := .of_isNs (PySem.W.isNs_of_in X hok)
      exact ⟨bm, ns, nm, qn, bs, hd, sn, sub, ab, col, dd, k0, k1, k2, k3, k5, _, X _ _ ho, hns, ns_some_of X hns hni, PySem.W.tail_of_in X ht⟩
    next => cases q
  next => cases q
structure ExcF (K : PySem.W.Frag) (C : Addr) (f : Str) : Prop where
  c : ExcC K C
  sa : PySem.W.findIn K (.ref C) "__setattr__" = some (some (.builtin "object.__setattr__"))
  na : PySem.W.findIn K (.ref C) f = some none
  hd : PySem.W.hasDictIn K C = true
  mr : ∃ R, ((PySem.W.clsIn K C).any fun cd => cd.mro == .ref C :: .ref R :: bmV) = true
section
variable {prog : Program} {w : World} {A : Around} {E : Value → Shared → Prop} {s : Shared} {K : PySem.W.Frag} {ea C : Addr} {ox : Obj} {od : Option Obj} {name : Str}
theorem exc_getv {expr : Bool} {v : Value} {Q : Value → Shared → Prop} (G : ExcC K C) (X : K.In s.heap) (J : PySem.W.InstAt s.heap ea ox C od) (hf : PySem.W.findObj K C od name = some (.value v)) (hv : PySem.W.handedIn v = true)
    (h : Q v { s with toks := s.toks + 1 }) : wpAny (model prog w) A (getAttr (.ref ea) name expr) Q E s := by
  obtain ⟨hh, g, d, t, os⟩ := s
  have L0 : PySem.W.Looks (model prog w) hh (typeOf (.ref ea)) (.ref C) := J.type
  have L1 := PySem.W.looks_findIn (M := model prog w) X G.ga
  have L2 := PySem.W.looks_findIn (M := model prog w) X G.gt
  have L4 := PySem.W.looks_find (M := model prog w) X J hf
  unfold getAttr getAttrBy
  refine wpAny_bind (wpAny_mkText (wpAny_holding (wpAny_bind (L0.at (wpAny_bind (L1.at ?_))))))
  show wpAny _ _ (getAttrByItsOwn _ _ _ _ _ _) _ _ _
  unfold getAttrByItsOwn
  refine wpAny_bind ?_
  show wpAny _ _ (typeLookup (.ref C) "__getattr__") _ _ _
  refine L2.at ?_
  refine wpAny_bind (wpAny_attempt (wpAny_holding ?_))
  have eb : callGetattribute (.ref ea) (.str name t) (.builtin "BaseException.__getattribute__") expr = boundAndCalled (.builtin "BaseException.__getattribute__") (.ref ea) (.str name t) := by cases expr <;> rfl
  rw [eb]
  unfold boundAndCalled
  refine wpAny_bind (wpAny_of_eq (a := (Value.builtin "BaseException.__getattribute__", [Value.ref ea])) bind_ga ?_)
  refine wpAny_call (codeAny_call_builtin plain_ga F.entry_bexc_ga ?_)
  have hk : builtinKind "BaseException.__getattribute__" = some .slot := by decide +kernel
  have hs : splitId "BaseException.__getattribute__" = some ("BaseException", "__getattribute__") := by decide +kernel
  have L5 : PySem.W.Looks (model prog w) hh (isInstance (.ref ea) (.type "BaseException")) true := L0.andThen (PySem.W.looks_mroIn X G.mb)
  have ha := F.args_bexc_ga (.ref ea) (.str name t)
  simp only [checkBuiltinCall, hk, hs]
  refine wpAny_bind (L5.at ?_)
  rw [if_neg (by decide)]
  refine wpAny_of_eq (a := ()) ha ?_
  refine wpAny_bind (wpAny_pure (wpAny_bind (wpAny_pure (wpAny_bind (L0.at (wpAny_bind (L4.at ?_)))))))
  refine wpAny_pure ?_
  show wpAny _ _ (handedOut v) _ _ _
  rw [PySem.W.handedOut_of hv]
  exact wpAny_pure h
theorem exc_setv {v : Value} {Q : Unit → Shared → Prop} (G : ExcF K C name) (X : K.In s.heap) (hx : s.heap.get? ea = some ox) (hc : ox.cls = .ref C) (hn : PySem.W.notCls ox = true) (hd0 : ox.dict = none)
    (h : ∀ h', h'.get? ea = some { ox with dict := some s.heap.objs.size } → h'.Ns1 s.heap.objs.size (fun y => if y = name then some v else none) → (∀ b o, b ≠ ea → s.heap.get? b = some o → h'.get? b = some o) → Q () { s with heap := h', toks := s.toks + 2 }) :
    wpAny (model prog w) A (setAttr (.ref ea) name v) Q E s := by
  have J : PySem.W.InstAt s.heap ea ox C none := ⟨hx, hc, hn, by rw [hd0]; exact True.intro⟩
  obtain ⟨R, hm⟩ := G.mr
  obtain ⟨cd, hcd, ho⟩ := PySem.W.any_some hm
  have hh := G.hd
  obtain ⟨cd', hcd', hdd⟩ := PySem.W.any_some hh
  rw [hcd] at hcd'; cases hcd'
  have ho : cd.mro = .ref C :: .ref R :: bmV := eq_of_beq ho
  have SF := PySem.F.store_object
  refine PySem.W.set_plain X J G.sa ?_
  have sub : PySem.W.Looks (model prog w) s.heap (isInstance (.ref ea) (.type "object")) true := J.type.andThen (PySem.W.looks_mroIn X G.c.mo)
  refine codeAny_call_builtin SF.slot.plain SF.entry (@PySem.W.check_slot (model prog w) _ _ { s with toks := s.toks + 1 } "object.__setattr__" "object" "__setattr__" (.ref ea) [.str name s.toks, v] [] _ SF.kind SF.split sub (SF.args (.ref ea) (.str name s.toks) v) ?_)
  have L2 : PySem.W.Looks (model prog w) s.heap (mroOf (.ref C)) cd.mro := (PySem.W.looks_clsIn X hcd).andThen .now
  have L3 : PySem.W.Looks (model prog w) s.heap (storeTaker? none) none := .now
  have L4 : PySem.W.Looks (model prog w) s.heap (classData C) cd := PySem.W.looks_clsIn X hcd
  rw [PySem.W.osa_eq, refuse_eq]
  refine wpAny_bind (wpAny_bind (PySem.W.Looks.here (s := { s with toks := s.toks + 1 }) J.type (wpAny_bind (PySem.W.Looks.here (s := { s with toks := s.toks + 1 }) L2 ?_))))
  rw [ho, refuseLoop_ref, refuseLoop_ref, PySem.F.store_ValueError.passes]
  refine wpAny_pure (wpAny_bind (PySem.W.Looks.here (s := { s with toks := s.toks + 1 }) J.type (wpAny_bind (PySem.W.Looks.here (s := { s with toks := s.toks + 1 }) (PySem.W.looks_findIn X G.na) (wpAny_bind (PySem.W.Looks.here (s := { s with toks := s.toks + 1 }) L3 ?_))))))
  obtain ⟨oc, odi, oda, osl⟩ := ox
  have hc : oc = .ref C := hc
  have hd0 : odi = none := hd0
  subst hc hd0
  refine wpAny_bind (wpAny_pure (wpAny_bind (wpAny_bind (wpAny_loadPart hx (wpAny_bind (PySem.W.Looks.here (s := { s with toks := s.toks + 1 }) L4 ?_))))))
  rw [hdd]
  have hx₁ : (s.heap.push { cls := .type "dict", data := .dict #[] }).get? ea = some ⟨.ref C, none, oda, osl⟩ := Heap.get?_push_of_some _ hx
  have hxs : ea ≠ s.heap.objs.size := Nat.ne_of_lt (Heap.lt_size hx)
  have go : ∀ (QF : PySem.Fin → Shared → Prop) (E' : Value → Shared → Prop) (b : Bool), (∀ s', Q () s' → QF (.done (.ret .none)) s') → wpAny (model prog w) A.in1 (do
      let d ← alloc { cls := .type "dict", data := .dict #[] }
      update ea fun o => { o with dict := some d }
      dictMade (.ref C) ea d) (fun r s' => wpAny (model prog w) A.in1 (match r with | some d => storeInDict d (.str name s.toks) name v | none => noDictFor (.ref ea) (.ref C) name b) QF E' s') E' { s with toks := s.toks + 1 } := by
    intro QF E' b hQF
    refine wpAny_bind (wpAny_alloc (wpAny_bind (wpAny_update hx₁ (wpAny_pure ?_))))
    have hgd : ((s.heap.push { cls := .type "dict", data := .dict #[] }).update ea fun o => { o with dict := some s.heap.objs.size }).get? s.heap.objs.size = some { cls := .type "dict", data := .dict #[] } :=
      (Heap.get?_update_ne _ _ _ _ hxs.symm).trans (Heap.get?_push_at rfl rfl)
    have hnd : ((s.heap.push { cls := .type "dict", data := .dict #[] }).update ea fun o => { o with dict := some s.heap.objs.size }).Ns s.heap.objs.size (fun _ => none) := ⟨_, #[], _, hgd, rfl, fun e he => absurd he (by simp), fun _ => rfl⟩
    show wpAny _ _ (storeInDict s.heap.objs.size (.str name s.toks) name v) _ _ _
    unfold storeInDict newKeyGuard
    refine wpAny_bind (wpAny_pure (wpAny_bind (wpAny_nsSet1 (Heap.Ns1.of_empty hnd) fun h' hn' hs => ?_)))
    obtain ⟨oD, esD, epD, hoD, hdD, hcD⟩ := hn'.count (PySem.Within.cons name v PySem.Within.nil)
    refine wpAny_bind (wpAny_lookBehind hoD (by rw [hdD]; exact pastItsLine_dict (Nat.le_trans hcD (by rw [List.length_cons, List.length_nil, sizeLine_eq]; omega))) ?_)
    refine wpAny_pure (hQF _ (h h' ?_ hn' fun b o hb e => ?_))
    · refine (hs.2 ea hxs).trans (Heap.get?_update_self _ hx₁ ?_)
      have hfr := (Heap.get?_some_iff.mp hx).2
      cases oda <;> first | rfl | exact hfr
    · exact (hs.2 b (Nat.ne_of_lt (Heap.lt_size e))).trans ((Heap.get?_update_ne _ _ _ _ hb).trans (Heap.get?_push_of_some _ e))
  cases oda <;> first | exact go _ _ _ (fun _ z => z) | cases hn
end
noncomputable def exNew (a C : Addr) : Heap → Prop := fun h => ∃ o vs a0, h.get? a = some o ∧ o.cls = .ref C ∧ o.dict = none ∧ o.data = .fields vs ∧ vs[0]? = some a0 ∧ vs[1]? = some .none ∧ 4 < vs.size
noncomputable def exSet (a C d : Addr) : Heap → Prop := fun h => ∃ o vs a0, h.get? a = some o ∧ o.cls = .ref C ∧ o.dict = some d ∧ o.data = .fields vs ∧ vs[0]? = some a0 ∧ vs[1]? = some .none ∧ 4 < vs.size
theorem exNew_keep {a C : Addr} : ∀ h1 h2 : Heap, exNew a C h1 → (∀ o, h1.get? a = some o → h2.get? a = some o) → exNew a C h2 := fun _ _ ⟨o, vs, a0, e, r⟩ k => ⟨o, vs, a0, k o e, r⟩
theorem exSet_keep {a C d : Addr} : ∀ h1 h2 : Heap, exSet a C d h1 → (∀ o, h1.get? a = some o → h2.get? a = some o) → exSet a C d h2 := fun _ _ ⟨o, vs, a0, e, r⟩ k => ⟨o, vs, a0, k o e, r⟩
theorem relo_one {f : Str} {y : V} {u : Value} (r : RelV y u) (g : Str) : RelO (([(f, y)] : List (Str × V)).lookup g) (if g = f then some u else none) := by
  by_cases e : g = f
  · subst e; rw [if_pos rfl, List.lookup_cons_self]; exact r
  · rw [if_neg e, List.lookup_cons, show (g == f) = false from beq_eq_false_iff_ne.mpr e]; exact True.intro
section
variable {X : Cx} {pins : List (Addr × Obj)} {σ : St} {H : Hp} {s : Shared}
noncomputable def hide1 (H : Hp) (a : Addr) : Hp := fun b => if b = a then none else H b
theorem Inv.untrack {a : Addr} {φ : Heap → Prop} (I : Inv X pins σ H s) (e : H a = some (.ext φ)) : Inv X pins σ (hide1 H a) s := by
  have n1 : ∀ {b : Addr}, H b = none → hide1 H a b = none := fun {b} z => by unfold hide1; split <;> first | rfl | exact z
  have k1 : ∀ {b : Addr} {o : HO}, (∀ ψ, o ≠ .ext ψ) → H b = some o → hide1 H a b = some o := fun {b o} hn z => by
    unfold hide1
    rw [if_neg (by rintro rfl; rw [e] at z; exact hn _ (Option.some.inj z).symm)]; exact z
  refine ⟨I.ok, I.os, I.bare, ⟨I.base.keep, I.base.slot, fun b o q z hx => n1 (I.base.free b o q z hx), I.base.there, fun b xs q => k1 (fun _ z => nomatch z) (I.base.tups b xs q), fun b o u q => k1 (fun _ z => nomatch z) (I.base.frzs b o u q), fun b ps q => ?_⟩, I.loc, I.cell, n1 I.free, fun x c q => n1 (I.freeC x c q), fun p hp => ?_, fun b o q => ?_, I.len⟩
  · obtain ⟨m, z⟩ := I.base.tbls b ps q
    exact ⟨m, k1 (fun _ z => nomatch z) z⟩
  · obtain ⟨e1, n, r⟩ := I.pin p hp
    exact ⟨e1, n1 n, r⟩
  · have q' : H b = some o := by
      unfold hide1 at q
      split at q
      · cases q
      · exact q
    exact (I.hok b o q').stay (fun c u _ z => z) (fun c z => k1 (fun _ z => nomatch z) z) fun c xs z => k1 (fun _ z => nomatch z) z
end
section
variable {X : Cx} {o value e : Expr} {f : Str} {pos pos' : Pos} {ta tv : TE}
noncomputable def sExf (K : PySem.W.Frag) (ta tv : TE) (f : Str) : TS := fun D σ H => tv σ H fun y H1 => ta σ H1 fun x H2 => ∃ a C, x = .ref a ∧ H2 a = some (.ext (exNew a C)) ∧ ExcF K C f ∧ ∀ d, H2 d = none → D.nx σ (upd (upd H2 d (.xd [(f, y)])) a (.ext (exSet a C d)))
theorem ps_exf (ha : PE X o ta) (hv : PE X value tv) (hs : swapsWith value (some (.Attribute o f pos')) pos.line X.env = pure false) : PS X (.Assign [.Attribute o f pos'] value pos) (sExf X.K ta tv f) := by
  intro pins s σ H D I h
  refine plainObj_wpAny_Assign_Attribute (thn (hv pins s σ H _ I h) fun u s1 ⟨y, H1, I1, ry, q⟩ => thn (ha pins s1 σ H1 _ I1 q) fun ov s2 ⟨x, H2, I2, rx, a, C, ex, ea, G, q2⟩ => ?_) hs
  subst ex
  obtain rfl : ov = Value.ref a := rx
  obtain ⟨⟨oe, vs, a0, he, hc, hd0, hdat, h0, h1, h4⟩, _⟩ := (show ObjOk X.prog X.w H2 s2.heap a (.ext (exNew a C)) from I2.hok a _ ea)
  have hn : PySem.W.notCls oe = true := by unfold PySem.W.notCls; rw [hdat]
  refine exc_setv G I2.kIn he hc hn hd0 fun h' e1 e2 e3 => ?_
  have fr : H2 s2.heap.objs.size = none := I2.hok.fresh (Nat.le_refl _)
  have ne : s2.heap.objs.size ≠ a := Nat.ne_of_gt (Heap.lt_size he)
  obtain ⟨oD, es, ep, hoD, hdD, r1, r2, r3⟩ := id e2
  have gd : (s2.heap.push oD).get? s2.heap.objs.size = some oD := Heap.get?_push_size _ (by
    have := (Heap.get?_some_iff.mp hoD).2
    first | exact this | simpa using this)
  have I3 : Inv X pins σ (upd H2 s2.heap.objs.size (.xd [(f, y)])) { s2 with heap := s2.heap.push oD, toks := s2.toks } := I2.laid (fun b o q => Heap.get?_push_of_some _ q) (Nat.le_refl _) ⟨_, ⟨oD, es, ep, gd, hdD, r1, r2, r3⟩, relo_one ry⟩
  have I4 : Inv X pins σ (upd (upd H2 s2.heap.objs.size (.xd [(f, y)])) a (.ext (exSet a C s2.heap.objs.size))) { s2 with heap := h', toks := s2.toks + 2 } := by
    refine I3.write (x := a) (e := a) (h' := h') (t' := s2.toks + 2) (by rw [upd_ne (Ne.symm ne), ea]; exact True.intro) (.inl rfl) (fun b o hb q => ?_) ⟨_, e1⟩ ⟨⟨_, vs, a0, e1, hc, rfl, hdat, h0, h1, h4⟩, ⟨_, e1⟩, exSet_keep⟩
    rcases Heap.get?_push_cases q with ⟨z, z2⟩ | q
    · rw [z, z2]; exact hoD
    · exact e3 b o hb q
  exact ⟨σ, _, I4, q2 _ fr⟩
inductive isExf (K : PySem.W.Frag) (f : Str) (Q : VK) (x : V) (H1 : Hp) : Prop
  | mk (a C d : Addr) (fs : List (Str × V)) (v : V) (e : x = .ref a) (ea : H1 a = some (.ext (exPhi a C (some d)))) (ed : H1 d = some (.xd fs)) (G : ExcF K C f) (l : fs.lookup f = some v) (q : Q v H1) : isExf K f Q x H1
noncomputable def tExf (K : PySem.W.Frag) (ta : TE) (f : Str) : TE := fun σ H Q => ta σ H (isExf K f Q)
theorem pe_exf (he : PE X e ta) (hb : attributeBase e f X.env (eval e X.env) = eval e X.env := by rfl) : PE X (.Attribute e f pos) (tExf X.K ta f) := by
  intro pins s σ H Q I h
  refine attr_of hb (thn (he pins s σ H _ I h) fun u s1 ⟨x, H1, I1, rx, a, C, d, fs, v, ex, ea, ed, G, l, q⟩ => ?_)
  subst ex
  obtain rfl : u = Value.ref a := rx
  obtain ⟨⟨oe, vs, ho, ⟨hc, hdx⟩, hdat⟩, _⟩ := (show ObjOk X.prog X.w H1 s1.heap a (.ext (exPhi a C (some d))) from I1.hok a _ ea)
  obtain ⟨mA, hns, rel⟩ := (show ObjOk X.prog X.w H1 s1.heap d (.xd fs) from I1.hok d _ ed)
  obtain ⟨od, hod, hlk⟩ := lookIn_ns hns
  obtain ⟨u', hu, ru⟩ := RelO.some_of (v := v) (o := mA f) (by rw [← l]; exact rel f)
  have J : PySem.W.InstAt s1.heap a oe C (some od) := ⟨ho, hc, by unfold PySem.W.notCls; rw [hdat], by rw [hdx.1 d rfl]; exact hod⟩
  exact exc_getv G.c I1.kIn J (PySem.W.findObj_own G.hd G.na rfl (by rw [hlk, hu])) (handed_of ru) ⟨v, H1, I1.tok _, ru, q⟩
end
inductive ispInit (C : Addr) (fld : Str) (a b : V) (H : Hp) (Q : VK) : Prop
  | mk (e : Addr) (ha : a = .ref e) (he : H e = some (.ext (exNew e C))) (q : ∀ d, H d = none → Q .non (upd (upd H d (.xd [(fld, b)])) e (.ext (exSet e C d)))) : ispInit C fld a b H Q
noncomputable def spInit (C : Addr) (fld : Str) : Sp := fun vs H Q _ => ∃ a b, vs = [a, b] ∧ ispInit C fld a b H Q
theorem fn_obj {K : PySem.W.Frag} {h : Heap} {f : Addr} (X : K.In h) (q : PySem.W.isFn K (.ref f) = true) : ∃ o, h.get? f = some o ∧ o.cls = .type "function" := by
  have q' : PySem.W.typeIn K (.ref f) = some (.type "function") := beq_iff_eq.mp q
  obtain ⟨o, ho, e⟩ := Option.map_eq_some_iff.mp (show (K.lookup f).map (·.cls) = some (.type "function") from q')
  exact ⟨o, X _ _ ho, e⟩
section
variable {P : Program} {w : World} {K : PySem.W.Frag} {mg : Str → Option Value} {base : Heap} {N : List Str} {qual : Str} {scope : Scope} {f : Addr} {cd : Value} {A : Around} {outer : List Env} {s : Shared} {H : Hp} {E : XK}
theorem ps_raiseR {x p1 fld : Str} {np cpos pos : Pos} {e₀ : Expr} {t : TA} {C fI : Addr} {fd : FuncData} {k k' : Nat} (hq : excInI K C fI bmV "ValueError.__new__" = true) (hm : mg x = some (.ref C)) (hfn : PySem.W.isFn K (.ref fI) = true)
    (FI : FnOk P w K mg base (CX1 P w) k' fI fd ["self", p1] (spInit C fld)) (hb : Binds K fd ["self", p1] []) (hr : Room k (cxOf (CX1 P w) P w K mg base N qual scope f cd A outer s H E).A)
    (ha : PA (cxOf (CX1 P w) P w K mg base N qual scope f cd A outer s H E) [e₀] t) (hkk : k' + 1 ≤ k := by decide)
    (hg : Gl (cxOf (CX1 P w) P w K mg base N qual scope f cd A outer s H E) x := by rfl) (hdb : (x == ("__debug__" : Str)) = false := by decide) (hp : plainE e₀ = true := by rfl) :
    PS (cxOf (CX1 P w) P w K mg base N qual scope f cd A outer s H E) (.Raise (some (.Call (.Name x np) [e₀] [] cpos)) none pos) (fun _ σ H0 => t σ H0 fun vs H1 => ∃ v, vs = [v] ∧ ∀ d, H1 d = none → E (.ref C) (some d) (upd H1 d (.xd [(fld, v)]))) := by
  intro pins s1 σ H0 D I h
  have he := star_plain (es := []) (env := (cxOf (CX1 P w) P w K mg base N qual scope f cd A outer s H E).env) hp
  obtain ⟨tl, N', nm, q, bs, hdct, sn, sub, ab, col, dd, k0, k1, k2, k3, k5, mN, hC, hN, hi, T⟩ := exc_objI I.ok.mod.kin hq
  obtain ⟨oI, hoI, hfc⟩ := fn_obj I.ok.mod.kin hfn
  refine Raise_initT (C := C) (nm := nm) (q := q) (N := N') (bs := bs) (bm := tl) (hdct := hdct) (sn := sn) (sub := sub) (ab := ab) (col := col) (dd := dd) (k0 := k0) (k1 := k1) (k2 := k2) (k3 := k3) (k5 := k5)
    PySem.F.excBase_ValueError (mN := mN) (fI := fI) (oI := oI) (T.hasType PySem.F.excBase_ValueError.hasBase) (I.ok.hd rfl) (by rw [he]; rfl) hi hfc (ld_glob I hg hm ⟨rfl, ?_⟩ hdb)
  have hs := ha cpos pins s1 σ H0 _ I h
  rw [he] at hs ⊢
  refine Calls.evalArgs_plain (wpAny_mono hs (fun us s2 h2 => ?_) fun _ _ y => y)
  obtain ⟨vs, H2, I2, r, v, rfl, hE⟩ := h2
  obtain ⟨u, rfl, ru⟩ := vals1 r
  refine ⟨rfl, (by show 1 ≤ sizeLine; decide), I2.bk _ _ hC, hN.keeps I2.bk, T.keeps I2.bk, I2.bk _ _ hoI, ?_⟩
  generalize hea : s2.heap.objs.size + 1 = ea
  have kp : ∀ b o, s2.heap.get? b = some o → ((s2.heap.push (argT [u])).push (excO C s2.heap.objs.size)).get? b = some o := fun b o z => Heap.get?_push_of_some _ (Heap.get?_push_of_some _ z)
  have e1 : ((s2.heap.push (argT [u])).push (excO C s2.heap.objs.size)).get? ea = some (excO C s2.heap.objs.size) := by
    have := Heap.get?_push_size (s2.heap.push (argT [u])) (o := excO C s2.heap.objs.size) rfl
    rw [Heap.size_push, hea] at this; exact this
  have hle : s2.heap.objs.size ≤ ea := by rw [← hea]; exact Nat.le_succ _
  have fr : H2 ea = none := I2.hok.fresh hle
  have I3 : Inv (cxOf (CX1 P w) P w K mg base N qual scope f cd A outer s H E) pins σ (upd H2 ea (.ext (exNew ea C))) { s2 with heap := (s2.heap.push (argT [u])).push (excO C s2.heap.objs.size), toks := s2.toks } :=
    I2.laid kp hle ⟨⟨_, _, _, e1, rfl, rfl, rfl, rfl, rfl, (by show 4 < 6; decide)⟩, ⟨_, e1⟩, exNew_keep⟩
  have hsp : spInit C fld [.ref ea, v] (upd H2 ea (.ext (exNew ea C))) (fun v' H' => v' = .non ∧ ∃ d, H2 d = none ∧ d ≠ ea ∧ H' = upd (upd (upd H2 ea (.ext (exNew ea C))) d (.xd [(fld, v)])) ea (.ext (exSet ea C d))) E0 :=
    ⟨_, _, rfl, ea, rfl, upd_same, fun d hd => by
      have ne : d ≠ ea := by rintro rfl; rw [upd_same] at hd; cases hd
      rw [upd_ne ne] at hd
      exact ⟨rfl, d, hd, ne, rfl⟩⟩
  refine wpAny_call (codeAny_mono (FI.run _ (cxOf (CX1 P w) P w K mg base N qual scope f cd A outer s H E).stack _ _ ⟨[.ref ea, u], []⟩ [.ref ea, u] _ _ E0 ((hr.mono hkk).make C [u] []) (I3.env0.make C [u] []) (hb _ [.ref ea, u] I3.kIn rfl) (show Vals [V.ref ea, v] [Value.ref ea, u] from .cons rfl (.cons ru .nil)) hsp) fun r s' hq' => ?_)
  cases r with
  | error e =>
    obtain ⟨_, _, _, _, _, _, _, _, _, _, z⟩ := (show CX1 P w _ _ _ E0 e s' from hq')
    exact z.elim
  | ok fl =>
    cases fl with
    | ret u' =>
      obtain ⟨v', H', I4, rv, rfl, d, hd0, hdne, rfl⟩ := I3.after hq'
      have hu' : u' = Value.none := rv
      subst hu'
      have I5 := I4.untrack upd_same
      have eH : hide1 (upd (upd (upd H2 ea (.ext (exNew ea C))) d (.xd [(fld, v)])) ea (.ext (exSet ea C d))) ea = upd H2 d (.xd [(fld, v)]) := by
        funext b
        unfold hide1 upd
        by_cases hb : b = ea
        · subst hb; rw [if_pos rfl, if_neg (Ne.symm hdne), fr]
        · rw [if_neg hb, if_neg hb]
          by_cases hd : b = d
          · rw [if_pos hd, if_pos hd]
          · rw [if_neg hd, if_neg hd, if_neg hb]
      rw [eH] at I5
      obtain ⟨⟨oe, vs', a0, he', hc', hd', hdat', h0', h1', _⟩, _⟩ := (show ObjOk P w _ s'.heap ea (.ext (exSet ea C d)) from I4.hok ea _ upd_same)
      refine ⟨rfl, oe, vs', I4.bk _ _ hC, he', hc', hdat', h1', ?_⟩
      have hin : ∀ env ∈ (cxOf (CX1 P w) P w K mg base N qual scope f cd A outer s H E).stack, ∀ b, env.frame = some b → b ∈ ea :: frs (cxOf (CX1 P w) P w K mg base N qual scope f cd A outer s H E).stack := fun env he b hb => .tail _ (List.mem_filterMap.mpr ⟨env, he, hb⟩)
      refine wpAny_dkQ kd_leaving (wpAny_leaving_firstW (base := PySem.W.hideAll s'.heap (ea :: frs (cxOf (CX1 P w) P w K mg base N qual scope f cd A outer s H E).stack)) (a0 := a0) I5.ok.frames (PySem.W.funFrames_hide I5.stack hin) rfl he' (fun b o q => PySem.W.of_hideAll _ q) (PySem.W.hideAll_none _ (.head _)) hdat' h1' h0' fun h'' hL dk => ?_)
      obtain ⟨y1, y2, y3, y4⟩ := hL
      rw [hc'] at y3
      have olds : s.heap.get? ea = none := by
        cases z : s.heap.get? ea with
        | none => rfl
        | some o =>
          obtain ⟨o', z'⟩ := I2.base.there ea o z (fun z => nomatch z)
          exact absurd (Heap.lt_size z') (Nat.not_lt.mpr hle)
      refine left_cx (d := some d) (s1 := s') (hid := ea :: frs (cxOf (CX1 P w) P w K mg base N qual scope f cd A outer s H E).stack) I5 (fun b hb => .tail _ hb) (fun b hb => ?_) y1 y4 y3 (.inl (.head _)) (fun o z => ⟨fun a za => ?_, fun n => nomatch n⟩) (hE d hd0)
      · rcases List.mem_cons.mp hb with rfl | hb
        · exact .inr ⟨olds, by rw [upd_ne (Ne.symm hdne)]; exact fr⟩
        · exact .inl hb
      · cases za
        exact (congrArg Prod.fst (dk.get he' z)).trans hd'
    | next => exact False.elim hq'
    | brk => exact False.elim hq'
    | cont => exact False.elim hq'
end
end L2
set_option Elab.async false
set_option linter.all false
set_option maxRecDepth 100000
set_option maxHeartbeats 2000000
namespace L2
open PySem PySem.Spec PyProof.Rows
open PySem.AutoSeq1 (wpAny_loadPart')
section
variable {prog : Program} {w : World} {A : Around} {E : Value → Shared → Prop} {s : Shared} {a : Addr}
end
section
variable {prog : Program} {w : World} {K : Type} [DecidableEq K] {knd : KeyKind prog w K} {A : Around} {R : Result → Shared → Prop}
end
section
variable {prog : Program} {w : World} {A : Around} {E : Value → Shared → Prop} {s : Shared}
end
section
variable {M : Model} {A : Around} {E : Value → Shared → Prop} {s : Shared} {env : Env}
end
section
variable {X : Cx} {els : List Expr} {x1 : Nat} {tpos : Pos}
end
section
variable {K : PySem.W.Frag} {g : TG} {te : TE} {σ0 : St} {H1 : Hp} {Q : VK}
end
structure RowI (P : Program) (w : World) (K : PySem.W.Frag) (mg : Str → Option Value) (base : Heap) (x : Str) (C : Addr) (fld : Str) (k' : Nat) : Prop where
  ex : ∃ fI fd p1, excInI K C fI bmV "ValueError.__new__" = true ∧ mg x = some (.ref C) ∧ PySem.W.isFn K (.ref fI) = true ∧ FnOk P w K mg base (CX1 P w) k' fI fd ["self", p1] (spInit C fld) ∧ Binds K fd ["self", p1] []
theorem ps_raiseRI {P : Program} {w : World} {K : PySem.W.Frag} {mg : Str → Option Value} {base : Heap} {N : List Str} {qual : Str} {scope : Scope} {f : Addr} {cd : Value} {A : Around} {outer : List Env} {s : Shared} {H : Hp} {E : XK}
    {x fld : Str} {np cpos pos : Pos} {e₀ : Expr} {t : TA} {C : Addr} {k k' : Nat} (F : RowI P w K mg base x C fld k') (hr : Room k (cxOf (CX1 P w) P w K mg base N qual scope f cd A outer s H E).A)
    (ha : PA (cxOf (CX1 P w) P w K mg base N qual scope f cd A outer s H E) [e₀] t) (hkk : k' + 1 ≤ k := by decide)
    (hg : Gl (cxOf (CX1 P w) P w K mg base N qual scope f cd A outer s H E) x := by rfl) (hdb : (x == ("__debug__" : Str)) = false := by decide) (hp : plainE e₀ = true := by rfl) :
    PS (cxOf (CX1 P w) P w K mg base N qual scope f cd A outer s H E) (.Raise (some (.Call (.Name x np) [e₀] [] cpos)) none pos) (fun _ σ H0 => t σ H0 fun vs H1 => ∃ v, vs = [v] ∧ ∀ d, H1 d = none → E (.ref C) (some d) (upd H1 d (.xd [(fld, v)]))) := by
  obtain ⟨fI, fd, p1, hq, hm, hfn, FI, hb⟩ := F.ex
  exact ps_raiseR hq hm hfn FI hb hr ha hkk hg hdb hp
end L2
set_option Elab.async false
set_option linter.all false
set_option maxRecDepth 100000
set_option maxHeartbeats 2000000
namespace L2
open PySem PySem.Spec PyProof.Rows
end L2
set_option Elab.async false
set_option linter.all false
namespace L2
open PySem PySem.Spec PyProof.Rows
end L2
set_option Elab.async false
set_option linter.all false
set_option maxRecDepth 100000
set_option maxHeartbeats 2000000
namespace L2
open PySem PySem.Spec PyProof.Rows
section
variable {X : Cx} {tg : Expr}
end
end L2
set_option Elab.async false
set_option linter.all false
set_option maxRecDepth 100000
set_option maxHeartbeats 2000000
namespace L2
open PySem PySem.Spec PyProof.Rows
section
variable {prog : Program} {w : World} {A : Around} {R : Result → Shared → Prop} {I : Addr} {fp wr : List Addr} {n : Nat} {Pi : Nat → Value → Prop} {St : Nat → Heap → Prop} {S : Addr} {dv : Value}
end
section
variable {X : Cx}
end
section
variable {X : Cx}
end
end L2
set_option Elab.async false
set_option linter.all false
set_option maxRecDepth 100000
set_option maxHeartbeats 2000000
namespace L2
open PySem PySem.Spec PyProof.Rows
section
variable {X : Cx}
variable {o e : Expr} {es : List Expr} {to : TE} {t : TA} {name : Str} {apos cpos : Pos} {T id : String} {r : V → List V → Hp → VK → Prop}
end
end L2
set_option Elab.async false
set_option linter.all false
set_option maxRecDepth 100000
set_option maxHeartbeats 2000000
namespace L2
open PySem PySem.Spec PyProof.Rows Builtin Builtin.Str
theorem lri_nolen : typeLookup (.type "list_reverseiterator") "__len__" = pure none := by
  rw [typeLookup_type, builtinLookup_eq_fast]; kernel_rfl
theorem lri_hint : typeLookup (.type "list_reverseiterator") "__length_hint__" = pure (some (.builtin "list_reverseiterator.__length_hint__")) := by
  rw [typeLookup_type, builtinLookup_eq_fast]; kernel_rfl
section
variable {prog : Program} {w : World} {A : Around} {E : Value → Shared → Prop} {z : Shared} {I l : Addr} {its : Array Value}
theorem items_rev {acc : Array Value} (h : ItemsOf (fun i v => its[its.size - 1 - i]? = some v) acc its.size) : acc.toList = its.toList.reverse := by
  apply List.ext_getElem?
  intro i
  by_cases hi : i < its.size
  · have h1 : acc[i]? = some (acc[i]'(by rw [h.1]; exact hi)) := Array.getElem?_eq_getElem (by rw [h.1]; exact hi)
    have h2 := h.2 i _ h1
    rw [List.getElem?_reverse (by simpa using hi), Array.getElem?_toList, Array.getElem?_toList, Array.length_toList, h2, h1]
  · rw [List.getElem?_eq_none (by rw [Array.length_toList, h.1]; omega), List.getElem?_eq_none (by rw [List.length_reverse, Array.length_toList]; omega)]
theorem collect_rev {Q : List Value → Shared → Prop} (hh : A.handled = none) (hl : z.heap.IsList l its) (hi : z.heap.IsRevIter I l ((its.size : Int) - 1)) (ne : l ≠ I) (hs : its.size ≤ sizeLine)
    (hQ : ∀ h' tk, (∀ b o, b ≠ I → z.heap.get? b = some o → h'.get? b = some o) → Q its.toList.reverse { z with heap := h', toks := tk }) : wpAny (model prog w) A (collect (.ref I)) Q E z := by
  have WS := (Walks.listRev (prog := prog) (w := w) (A := A.in1) hh I l ne its).toS
  have ltI : I < z.heap.objs.size := by obtain ⟨_, e, _⟩ := id hi; exact Heap.lt_size e
  have ltl : l < z.heap.objs.size := by obtain ⟨_, e, _⟩ := id hl; exact Heap.lt_size e
  have nf : z.heap.objs.size ∉ [I, l] := fun h => by
    rcases List.mem_cons.mp h with e | e
    · exact Nat.ne_of_gt ltI e
    · exact Nat.ne_of_gt ltl (List.mem_singleton.mp e)
  have nI : z.heap.objs.size ≠ I := Nat.ne_of_gt ltI
  unfold collect
  refine wpAny_bind (wpAny_runValue (codeAny_builtin F.entry_proto_collect ?_))
  rw [Around.under_plainId F.plain_proto_collect]
  refine wpAny_bind (m := newList []) (wpAny_newObj_type (wpAny_pure ⟨plainId_quiet F.plain_list_iadd _, codeAny_builtin F.entry_list_iadd ?_⟩))
  rw [Around.under_plainId F.plain_list_iadd]
  have i1 : (z.heap.push { cls := .type "list", data := .seq ([] : List Value).toArray }).IsRevIter I l ((its.size : Int) - 1) := hi.at fun o e => Heap.get?_push_of_some _ e
  have l1 : (z.heap.push { cls := .type "list", data := .seq ([] : List Value).toArray }).IsList l its := hl.at fun o e => Heap.get?_push_of_some _ e
  have new : (z.heap.push { cls := .type "list", data := .seq ([] : List Value).toArray }).get? z.heap.objs.size = some { cls := .type "list", data := .seq ([] : List Value).toArray } := Heap.get?_push_size _ rfl
  have old : ∀ b o, z.heap.get? b = some o → (z.heap.push { cls := .type "list", data := .seq ([] : List Value).toArray }).get? b = some o := fun b o e => Heap.get?_push_of_some _ e
  generalize hp : z.heap.push { cls := .type "list", data := .seq ([] : List Value).toArray } = hp1 at *
  have st0 : 0 ≤ its.size ∧ hp1.IsRevIter I l ((its.size : Int) - 1 - ((0 : Nat) : Int)) ∧ hp1.IsList l its := ⟨Nat.zero_le _, by simpa using i1, l1⟩
  show wpAny _ A.in1 (Builtin.List.listExtendWith (.ref z.heap.objs.size) (.ref I) (.ref z.heap.objs.size)) _ _ _
  unfold Builtin.List.listExtendWith
  refine wpAny_bind (wpAny_typeOf (s := { z with heap := hp1 }) i1.typeIs ?_)
  have ns : Builtin.List.listSameRef (.ref z.heap.objs.size) (.ref I) = false := by simp [Builtin.List.listSameRef, nI]
  rw [if_neg (by rw [ns]; decide)]
  refine wpAny_bind (WS.self 0 { z with heap := hp1 } _ _ st0 (wpAny_bind (wpAny_holding ?_)))
  unfold Builtin.List.listLengthHint
  refine wpAny_bind (wpAny_specialOf (s := { z with heap := hp1 }) i1.typeIs lri_nolen ?_)
  show wpAny _ A.in1 (specialOf (Value.ref I) (Str.ofString "__length_hint__") >>= _) _ _ _
  refine wpAny_bind (wpAny_specialOf (s := { z with heap := hp1 }) i1.typeIs lri_hint ?_)
  generalize hd : ("list_reverseiterator.__length_hint__" : String) = nm
  wp_delta
  rw [show splitId nm = some ("list_reverseiterator", "__length_hint__") from by subst hd; decide +kernel]
  subst hd
  refine wpAny_bind (wpAny_isInstance (s := { z with heap := hp1 }) (b := true) i1.typeIs (by rw [isSubtype_type]; kernel_rfl) (wpAny_pure ?_))
  rw [if_neg (by decide)]
  refine wpAny_pure ⟨plainId_quiet F.plain_extend_loop _, codeAny_extend_loopS WS hs _ nf _ its.size 0 { z with heap := hp1 } _ _ rfl (Nat.zero_le _) st0 new (ItemsOf.nil _) fun s' acc c m hS a => ?_⟩
  show wpAny _ A (load z.heap.objs.size >>= _) _ _ s'
  refine wpAny_bind (wpAny_load hS (wpAny_pure ?_))
  rw [items_rev a]
  obtain ⟨m1, m2, m3, m4, m5⟩ := m
  obtain ⟨hp', g', d', t', o'⟩ := s'
  have e2 : g' = z.gens := m2
  have e3 : d' = z.drawn := m3
  have e4 : o' = z.os := m4
  subst e2 e3 e4
  refine hQ hp' t' fun b o hb e => m1 b o (fun hm => ?_) (old b o e)
  rcases List.mem_cons.mp hm with q | q
  · exact Nat.ne_of_lt (Heap.lt_size e) q
  · exact hb (List.mem_singleton.mp q)
theorem strs_vals : ∀ {ts : List Str} {us : List Value}, Vals (ts.map V.str) us → ∃ l : List (Str × Tok), us = strValues l ∧ l.map (·.1) = ts
  | [], _, .nil => ⟨[], rfl, rfl⟩
  | t :: ts, _, .cons rx r => by
    obtain ⟨k, e⟩ := (show ∃ k, _ = Value.str t k from rx)
    obtain ⟨l, h1, h2⟩ := strs_vals (ts := ts) r
    subst e
    rw [h1]
    exact ⟨(t, k) :: l, rfl, by rw [List.map_cons, h2]⟩
theorem join_rev {x : Str} {t : Tok} {L : List (Str × Tok)} {Q : Value → Shared → Prop} (hh : A.handled = none) (hl : z.heap.IsList l (strValues L).toArray) (hi : z.heap.IsRevIter I l (((strValues L).toArray.size : Int) - 1)) (ne : l ≠ I) (hs : (strValues L).toArray.size ≤ sizeLine) (ok : JoinOk x (L.map (·.1)).reverse = true)
    (hQ : ∀ h' t' k, (∀ b o, b ≠ I → z.heap.get? b = some o → h'.get? b = some o) → Q (.str (Txt.join x (L.map (·.1)).reverse) t') { z with heap := h', toks := k }) : wpAny (model prog w) A (call (.builtin "str.join") [.str x t, .ref I]) Q E z := by
  refine wpAny_call (codeAny_call_builtin F.slot_str_join.plain F.entry_str_join (F.slot_str_join.check _ _ _ _ _ _ _ _ (typeIs_str _ _ _) (F.args_str_join_2 _ _) ?_))
  rw [join_tree_other]
  refine wpAny_bind (wpAny_typeOf hi.typeIs ?_)
  show wpAny _ A.in1 ((pyIter (.ref I)).tryCatch _ >>= fun it => collect it >>= fun got => joinTail x got) _ _ z
  refine wpAny_bind (wpAny_tryCatch (wpAny_pyIter_revIter hi (wpAny_bind (collect_rev hh hl hi ne hs fun h' tk hk => ?_))))
  have er : (strValues L).toArray.toList.reverse = strValues L.reverse := by simp [strValues]
  rw [er]
  have em : (L.reverse.map (·.1)) = (L.map (·.1)).reverse := List.map_reverse
  rw [← em] at ok hQ
  unfold JoinOk at ok
  rw [Bool.not_eq_true'] at ok
  have g : Gives (joinTail x (strValues L.reverse)) (joinMade x L.reverse) := by
    generalize L.reverse = M at ok
    have g0 := gives_joinTail x M ok
    cases M with
    | nil => exact g0
    | cons a b => cases b with
      | nil => exact g0
      | cons _ _ => exact g0
  exact g prog w A (wants Q E) { z with heap := h', toks := tk } (post_join L.reverse ⟨joinFit_length ok, fun t' k => hQ h' t' k hk⟩)
end
section
variable {X : Cx}
inductive rJoinR (sep : Str) (vs : List V) (H : Hp) (Q : VK) : Prop
  | mk (l : Addr) (ts : List Str) (e : vs = [.ref l]) (el : H l = some (.lst (ts.map V.str))) (ok : JoinOk sep ts.reverse = true) (q : Q (.str (Txt.join sep ts.reverse)) H) : rJoinR sep vs H Q
inductive rJoin (x : V) (vs : List V) (H : Hp) (Q : VK) : Prop
  | mk (sep : Str) (l : Addr) (ts : List Str) (h0 : x = .str sep) (h1 : vs = [.ref l]) (el : H l = some (.lst (ts.map V.str))) (ok : JoinOk sep ts = true) (q : Q (.str (Txt.join sep ts)) H) : rJoin x vs H Q
theorem mt_join : MtM X "str.join" rJoin := by
  intro pins s σ H x vs v us Q I rx rv h
  obtain ⟨sep, l, ts, rfl, rfl, hH, ok, q⟩ := h
  obtain ⟨t, rfl⟩ := (show ∃ t, v = Value.str sep t from rx)
  obtain ⟨u, rfl, ru⟩ := rv.one
  cases ru
  obtain ⟨z, its, n, r, hl, e⟩ := I.lstM hH
  obtain ⟨L, rfl, hL⟩ := strs_vals r
  exact SC.join (l := L) ⟨_, e, rfl, _, rfl⟩ hL ok fun t' k => ⟨.str _, H, I.tok _, ⟨_, rfl⟩, q⟩
inductive rStr (xs : List V) (H : Hp) (Q : VK) : Prop
  | int (n : Int) (e : xs = [.int n]) (h : n.natAbs.log2 < 1920) (q : Q (.str (Str.ofString (toString n))) H) : rStr xs H Q
  | str (x : Str) (e : xs = [.str x]) (q : Q (.str x) H) : rStr xs H Q
theorem call_str : CallR X (.type "str") rStr := by
  intro pins s σ H xs us Q I r h
  cases h with
  | int n e hn q =>
    subst e
    obtain ⟨u, rfl, rx⟩ := vals1 r
    obtain ⟨t, rfl⟩ := (show ∃ t, u = Value.int n t from rx)
    exact P.str_of_int hn ⟨.str _, H, I.tok _, ⟨_, rfl⟩, q⟩
  | str x e q =>
    subst e
    obtain ⟨u, rfl, rx⟩ := vals1 r
    obtain ⟨t, rfl⟩ := (show ∃ t, u = Value.str x t from rx)
    exact P.str_of_str ⟨.str _, H, I, ⟨_, rfl⟩, q⟩
inductive rIntT (xs : List V) (H : Hp) (Q : VK) : Prop
  | mk (x : Str) (n : Int) (e : xs = [.str x]) (h : intText? x = some n) (hl : x.length ≤ 640) (q : Q (.int n) H) : rIntT xs H Q
theorem call_intT : CallR X (.type "int") rIntT := by
  intro pins s σ H xs us Q I r h
  obtain ⟨x, n, rfl, hn, hl, q⟩ := h
  obtain ⟨u, rfl, rx⟩ := vals1 r
  obtain ⟨t, rfl⟩ := (show ∃ t, u = Value.str x t from rx)
  exact PySem.W.KIN.call_text hn hl ⟨.int _, H, I.tok _, ⟨_, rfl⟩, q⟩
inductive rStarts (x : V) (vs : List V) (H : Hp) (Q : VK) : Prop
  | mk (z y : Str) (h0 : x = .str z) (h1 : vs = [.str y]) (q : Q (.bl (decide (0 + y.length ≤ z.length) && subAt z y 0)) H) : rStarts x vs H Q
theorem mt_startswith : MtM X "str.startswith" rStarts := by
  intro pins s σ H x vs v us Q I rx rv h
  obtain ⟨z, y, rfl, rfl, q⟩ := h
  obtain ⟨t, rfl⟩ := (show ∃ t, v = Value.str z t from rx)
  obtain ⟨u, rfl, ru⟩ := rv.one
  obtain ⟨t', rfl⟩ := (show ∃ t, u = Value.str y t from ru)
  exact call_gives F.slot_str_startswith (typeIs_str _ _ _) F.entry_str_startswith (F.args_str_startswith_2 _ _) (gives_str_startswith z y t t') ⟨.bl _, H, I, rfl, q⟩
inductive rZfill (x : V) (vs : List V) (H : Hp) (Q : VK) : Prop
  | mk (z : Str) (i : Int) (h0 : x = .str z) (h1 : vs = [.int i]) (i0 : 0 ≤ i) (i1 : i ≤ 1000) (zl : z.length ≤ 1000) (q : ∀ y, Q (.str y) H) : rZfill x vs H Q
inductive rInS (x y : V) (H : Hp) (Q : VK) : Prop
  | mk (c : Nat) (z : Str) (h0 : x = .str ⟨#[c]⟩) (h1 : y = .str z) (q : Q (.bl (decide (c ∈ z.cps.toList))) H) : rInS x y H Q
theorem op_inS : OpR X (compareOp .In) rInS := by
  intro pins s σ H x y v u Q I rx ry h
  obtain ⟨c, z, rfl, rfl, q⟩ := h
  obtain ⟨t, rfl⟩ := (show ∃ t, v = Value.str ⟨#[c]⟩ t from rx)
  obtain ⟨t', rfl⟩ := (show ∃ t, u = Value.str z t from ry)
  refine PyProof.Rows.in_str ⟨.bl _, H, I, ?_, q⟩
  rw [StrLaws.found_one]; rfl
theorem mt_zfill : MtM X "str.zfill" rZfill := by
  intro pins s σ H x vs v us Q I rx rv h
  obtain ⟨z, i, rfl, rfl, i0, i1, zl, q⟩ := h
  obtain ⟨t, rfl⟩ := (show ∃ t, v = Value.str z t from rx)
  obtain ⟨u, rfl, ru⟩ := rv.one
  obtain ⟨t', rfl⟩ := (show ∃ t, u = Value.int i t from ru)
  have hl : tooLong i.toNat = false := by
    have : i.toNat ≤ 1000 := by omega
    unfold tooLong
    have : 1000 ≤ sizeLine := by decide
    exact decide_eq_false (by omega)
  have hr : (decide (i < -(2 ^ 63 : Int)) || decide (i ≥ 2 ^ 63)) = false := by
    rw [decide_eq_false (by omega), decide_eq_false (by omega)]; rfl
  refine call_gives F.slot_str_zfill (typeIs_str _ _ _) F.entry_str_zfill (F.args_str_zfill_2 _ _) (gives_str_zfill z i t t' hr hl) ?_
  by_cases hc : i ≤ (z.length : Int)
  · rw [if_pos hc]; exact ⟨.str _, H, I, ⟨_, rfl⟩, q _⟩
  · rw [if_neg hc]; exact ⟨fits_zfilled hl hc, .str _, H, I.tok _, ⟨_, rfl⟩, q _⟩
variable {o e : Expr} {to te : TE} {apos cpos p pos : Pos}
theorem pe_joinRev (ho : PE X o to) (he : PE X e te) (hc : X.calm = true) (hg : Gl X "reversed") (hm : X.mg "reversed" = none)
    (hbase : attributeBase o "join" X.env (eval o X.env) = eval o X.env := by rfl)
    (hfew : ((backTo cpos (starEach [.Call (.Name "reversed" p) [e] [] pos] X.env)).all (fun x => !x.1) && (backToKw cpos (keywordEach [] X.env)).all (fun x => x.1.isSome)
      && decide ([Expr.Call (.Name "reversed" p) [e] [] pos].length + ([] : List Keyword).length + (if ([] : List Keyword).isEmpty then 0 else 1) < 30)) = true := by rfl)
    (hline : (apos.endLine == cpos.line) = true := by rfl) (hs : plainE e = true := by rfl) :
    PE X (.Call (.Attribute o "join" apos) [.Call (.Name "reversed" p) [e] [] pos] [] cpos) (fun σ H Q => to σ H fun x H1 => ∃ sep, x = .str sep ∧ te σ H1 fun y H2 => rJoinR sep [y] H2 Q) := by
  intro pins s σ H Q I h
  have hA : PA X [e] (tCons te tNil) := ac he pa_nil hs
  refine wpAny_Call_method_late hbase hfew hline rfl (thn (ho pins s σ H _ I h) fun v s1 ⟨x, H1, I1, r1, sep, ex, q1⟩ => ?_)
  subst ex
  obtain ⟨h1, h2⟩ := tyV_is (T := "str") I1 r1 rfl
  obtain ⟨t, rfl⟩ := (show ∃ t, v = Value.str sep t from r1)
  refine ⟨"str", "str.join", F.plainAttrs_str, F.slot_str_join, F.type_str_join, h1, h2, ?_⟩
  have e1 : starEach [Expr.Call (.Name "reversed" p) [e] [] pos] X.env = [(false, eval (.Call (.Name "reversed" p) [e] [] pos) X.env)] := star_plain rfl
  rw [e1]
  refine Calls.callWith_builtin (by rfl) (Calls.evalArgs_plain ?_)
  show wpAny _ _ (spliced ((false, eval (.Call (.Name "reversed" p) [e] [] pos) X.env) :: backTo cpos [])) _ _ s1
  refine Calls.spliced_cons (Call_ (ld_blt I1 hg hm PyProof.Rows.Boot.«reversed» (PyProof.Rows.callWith_type1 (thn (hA pos pins s1 σ H1 (fun vs H2 => rJoinR sep vs H2 Q) I1 q1) fun us s2 ⟨vs, H2, I2, r2, q2⟩ => ?_) (star_plain hs) rfl)))
  obtain ⟨l, ts, rfl, el, ok, q⟩ := q2
  obtain ⟨u, rfl, ru⟩ := vals1 r2
  cases ru
  obtain ⟨z, its, n, r, hl, e⟩ := I2.lstM el
  obtain ⟨L, rfl, hL⟩ := strs_vals r
  have il : s2.heap.IsList l (strValues L).toArray := ⟨_, e, rfl, _, rfl⟩
  refine call_reversed_list il ?_
  have hlt : l < s2.heap.objs.size := Heap.lt_size e
  have keep : ∀ b ob, s2.heap.get? b = some ob → (s2.heap.push (revObj l (((strValues L).toArray.size : Int) - 1))).get? b = some ob := fun b ob hb => Heap.get?_push_of_some _ hb
  refine Calls.spliced_nil ?_
  rw [← hL] at ok q
  refine join_rev (I := s2.heap.objs.size) (l := l) (I2.ok.hd hc) (il.at fun ob hb => keep _ _ hb) ⟨_, Heap.get?_push_size _ rfl, rfl, rfl⟩ (Nat.ne_of_lt hlt) (by rw [List.size_toArray, ← hl]; exact z) ok fun h' t' k hk => ⟨.str _, H2, I2.kept fun b ob hb => hk b ob (Nat.ne_of_lt (Heap.lt_size hb)) (keep b ob hb), ⟨_, rfl⟩, q⟩
noncomputable def Its (x : Str) : It := ⟨fun i _ => i < x.cps.size, fun i H v H' => H' = H ∧ ∃ c, x.cps[i]? = some c ∧ v = .str ⟨#[c]⟩, fun i _ => x.cps.size ≤ i⟩
theorem turn_str {P : Program} {w : World} {K : PySem.W.Frag} {tg : Expr} (it : Addr) (x : Str) (t : Tok) (n : String) (hn : n = "str_ascii_iterator" ∨ n = "str_iterator") : Turn P w K tg (Its x) [it] it (fun i h => h.IsStrIter it n x t i) where
  mem := by simp
  obj := fun i h st b hb => by
    have e : b = it := by simpa using hb
    subst e
    obtain ⟨o, e, c, d⟩ := st
    exact ⟨o, e, fun v z => by rw [d] at z; cases z⟩
  keep := fun i h h' st k => let ⟨o, ho, r⟩ := st; ⟨o, k it (by simp) o ho, r⟩
  item := by
    intro X hP hw hK hc i pins s σ H E I hf st hg
    subst hP hw hK
    obtain ⟨f0, f1, f2, f3, f4, f5⟩ := hf it (by simp)
    have hx : x.cps[i]? = some (x.cps[i]'hg) := Array.getElem?_eq_getElem hg
    have fin : ∀ h' : Heap, h'.IsStrIter it n x t (i + 1) → Heap.SameBut it s.heap h' → ∃ u, (some (Value.str ⟨#[x.cps[i]'hg]⟩ s.toks)) = some u ∧ wpAny (model X.prog X.w) X.A (letOwnedTupleGo tg (.ref it) u) (fun _ s2 => ∃ y H', Inv X pins σ H' s2 ∧ RelV y u ∧ (Its x).yld i H y H' ∧ s2.heap.IsStrIter it n x t (i + 1) ∧ ∀ b ∈ [it], H' b = none) E { s with heap := h', toks := s.toks + 1 } := fun h' st' sb => by
      have I1 : Inv X pins σ H { s with heap := h', toks := s.toks + 1 } := I.turned (fun b o hb e => (sb.2 b hb).trans e) f0 f1 f3 f4 f5
      obtain ⟨o, e, c, d⟩ := id st'
      refine ⟨_, rfl, go_of (s := { s with heap := h', toks := s.toks + 1 }) e c d (by rcases hn with rfl | rfl <;> decide) ⟨.str ⟨#[x.cps[i]'hg]⟩, H, I1, ⟨_, rfl⟩, ⟨rfl, _, hx, rfl⟩, st', fun b hb => (hf b hb).1⟩⟩
    rcases hn with rfl | rfl
    · exact wpAny_pyNext_ascii_item st hx fin
    · exact wpAny_pyNext_wide_item st hx fin
  done := by
    intro X hP hw hK hc i pins s σ H E I hf st hg
    subst hP hw hK
    obtain ⟨f0, f1, f2, f3, f4, f5⟩ := hf it (by simp)
    have hx : x.cps[i]? = none := Array.getElem?_eq_none hg
    rcases hn with rfl | rfl
    · exact wpAny_pyNext_ascii_end (I.ok.hd hc) st hx fun h' eb => ⟨rfl, I.turned (t' := s.toks) (fun b o hb e => eb b o hb e) f0 f1 f3 f4 f5⟩
    · exact wpAny_pyNext_wide_end (I.ok.hd hc) st hx fun h' eb => ⟨rfl, I.turned (t' := s.toks) (fun b o hb e => eb b o hb e) f0 f1 f3 f4 f5⟩
  self := fun _ _ _ _ _ st h => by
    rcases hn with rfl | rfl
    · exact wpAny_pyIter_striter_ascii st h
    · exact wpAny_pyIter_striter_wide st h
noncomputable def iStr (tl : TE) : TI := fun σ H R => tl σ H fun x H1 => ∃ z, x = .str z ∧ R (Its z) H1
theorem pi_str {tg l : Expr} {tl : TE} (hl : PE X l tl) : PI X tg l (iStr tl) := by
  intro pins s σ H R I h
  refine thn (hl pins s σ H _ I h) fun v s1 ⟨x, H1, I1, r1, z, ex, q⟩ => ?_
  subst ex
  obtain ⟨t, rfl⟩ := (show ∃ t, v = Value.str z t from r1)
  have fin : ∀ n, (n = "str_ascii_iterator" ∨ n = "str_iterator") → PIE X pins σ tg R (.ref s1.heap.objs.size) { s1 with heap := s1.heap.push { cls := .type n, data := .fields #[.str z t, .int 0 0] } } := fun n hn =>
    ⟨s1.heap.objs.size, [s1.heap.objs.size], _, _, H1, rfl, I1.kept (t' := s1.toks) fun b o e => Heap.get?_push_of_some _ e, turn_str _ z t n hn, ⟨_, Heap.get?_push_size _ rfl, rfl, rfl⟩, (fun b hb => by
      have e : b = s1.heap.objs.size := by simpa using hb
      subst e
      exact I1.fpOk (Nat.le_refl _) (I1.hok.fresh (Nat.le_refl _))), q⟩
  cases ha : z.cps.all (· < 128)
  · exact wpAny_pyIter_wide ha (fin _ (.inr rfl))
  · exact wpAny_pyIter_ascii ha (fin _ (.inl rfl))
theorem pe_globS {x : Str} {z : Str} {pos : Pos} (h : ∃ t, X.mg x = some (.str z t)) (hg : Gl X x := by rfl) (hd : (x == ("__debug__" : Str)) = false := by decide) : PE X (.Name x pos) (tC (.str z)) := by
  obtain ⟨t, h⟩ := h
  exact pe_glob hg h ⟨t, rfl⟩ hd
end
end L2
set_option Elab.async false
set_option linter.all false
set_option maxRecDepth 100000
set_option maxHeartbeats 2000000
namespace RF
open PySem PySem.NumText L2
noncomputable def dg (m : Nat) : List Nat := (Nat.toDigits 10 m).map Char.toNat
noncomputable def tx (n : Int) : Str := Str.ofString (toString n)
theorem tx_nat (m : Nat) : (tx m).cps.toList = dg m := PySem.W.KIN.signs_num m
theorem tx_neg (m : Nat) : (tx (Int.negSucc m)).cps.toList = 45 :: dg (m + 1) := by
  have h := tx_nat (m + 1)
  unfold tx at h ⊢
  rw [PyProof.Rows.signs_ofString] at h ⊢
  have e : toString (Int.negSucc m) = "-" ++ toString ((m + 1 : Nat) : Int) := rfl
  rw [e, String.toList_append, List.map_append, h]
  rfl
theorem dg_digits (m : Nat) : AllDigits (dg m) := fun c hc => by
  obtain ⟨ch, hch, e⟩ := List.mem_map.mp hc
  rw [← e]
  exact PyProof.Rows.digit_range (Nat.isDigit_of_mem_toDigits (by decide) (by decide) hch)
theorem dg_pos (m : Nat) : 1 ≤ (dg m).length := by
  unfold dg
  rw [List.length_map]
  exact PyProof.Rows.tDigits_len_ge 10 m
theorem dg_len {m k : Nat} (hk : 1 ≤ k) (h : m < 10 ^ k) : (dg m).length ≤ k := by
  unfold dg
  rw [List.length_map]
  exact PyProof.Rows.digits10_le hk h
theorem dg_val (m : Nat) : digitsVal (dg m) = m := PySem.W.KIN.val_back m
theorem dg_small : ∀ d : Nat, d < 10 → d ≠ 0 → ((Nat.toDigits 10 d).map Char.toNat).head? ≠ some 48 := by decide
theorem dg_head {m : Nat} (h : m ≠ 0) : (dg m).head? ≠ some 48 := by
  induction m using Nat.strongRecOn with
  | _ m ih =>
    by_cases hm : m < 10
    · exact dg_small m hm h
    · have hr : m % 10 < 10 := Nat.mod_lt m (by decide)
      have t : Nat.toDigits 10 (m / 10) ++ Nat.toDigits 10 (m % 10) = Nat.toDigits 10 (10 * (m / 10) + m % 10) := Nat.toDigits_append_toDigits (by decide) (by omega) hr
      rw [Nat.div_add_mod] at t
      have e : dg m = dg (m / 10) ++ dg (m % 10) := by unfold dg; rw [← t, List.map_append]
      have i := ih (m / 10) (by omega) (by omega)
      rw [e]
      have p := dg_pos (m / 10)
      cases hd : dg (m / 10) with
      | nil => rw [hd] at p; simp at p
      | cons a r => rw [hd] at i; exact i
noncomputable def cutM : List Nat → List Nat
  | [] => []
  | c :: r => if c = 45 then r else c :: r
noncomputable def dig (c : Nat) : Bool := decide (c ∈ ("0123456789" : Str).cps.toList)
noncomputable def isNumB (cs : List Nat) : Bool := decide (1 ≤ (cutM cs).length) && decide ((cutM cs).length ≤ 60) && (cutM cs).all dig && (decide ((cutM cs).head? ≠ some 48) || decide (cs = [48]))
theorem dig_iff {c : Nat} : dig c = true ↔ 48 ≤ c ∧ c ≤ 57 := by
  unfold dig
  have e : ("0123456789" : Str).cps.toList = [48, 49, 50, 51, 52, 53, 54, 55, 56, 57] := by decide +kernel
  rw [e, decide_eq_true_iff]
  simp only [List.mem_cons, List.not_mem_nil, or_false]
  omega
theorem digs_iff {cs : List Nat} : cs.all dig = true ↔ AllDigits cs := by
  rw [List.all_eq_true]
  exact ⟨fun h c hc => dig_iff.mp (h c hc), fun h c hc => dig_iff.mpr (h c hc)⟩
theorem cut_digits {cs : List Nat} (h : AllDigits cs) : cutM cs = cs := by
  cases cs with
  | nil => rfl
  | cons c r =>
    have := h c List.mem_cons_self
    show (if c = 45 then r else c :: r) = c :: r
    rw [if_neg (by omega)]
theorem num_nat {m : Nat} (h : m < 10 ^ 60) : isNumB (dg m) = true := by
  unfold isNumB
  rw [cut_digits (dg_digits m), decide_eq_true (dg_pos m), decide_eq_true (dg_len (by decide) h), digs_iff.mpr (dg_digits m)]
  by_cases hm : m = 0
  · subst hm; decide
  · rw [decide_eq_true (dg_head hm)]; rfl
theorem num_neg {m : Nat} (h : m + 1 < 10 ^ 60) : isNumB (45 :: dg (m + 1)) = true := by
  unfold isNumB
  have e : cutM (45 :: dg (m + 1)) = dg (m + 1) := rfl
  rw [e, decide_eq_true (dg_pos _), decide_eq_true (dg_len (by decide) h), digs_iff.mpr (dg_digits _), decide_eq_true (dg_head (by omega))]
  rfl
theorem num_tx {n : Int} (h : n.natAbs < 10 ^ 60) : isNumB (tx n).cps.toList = true := by
  cases n with
  | ofNat m => rw [show (tx (Int.ofNat m)).cps.toList = dg m from tx_nat m]; exact num_nat h
  | negSucc m => rw [tx_neg]; exact num_neg h
theorem isNum_cases {cs : List Nat} (h : isNumB cs = true) : ∃ ds, (cs = ds ∨ cs = 45 :: ds) ∧ 1 ≤ ds.length ∧ ds.length ≤ 60 ∧ AllDigits ds := by
  unfold isNumB at h
  rw [Bool.and_eq_true, Bool.and_eq_true, Bool.and_eq_true] at h
  obtain ⟨⟨⟨h1, h2⟩, h3⟩, _⟩ := h
  refine ⟨cutM cs, ?_, of_decide_eq_true h1, of_decide_eq_true h2, digs_iff.mp h3⟩
  cases cs with
  | nil => exact .inl rfl
  | cons c r =>
    by_cases hc : c = 45
    · exact .inr (by show c :: r = 45 :: (if c = 45 then r else c :: r); rw [if_pos hc, hc])
    · exact .inl (by show c :: r = (if c = 45 then r else c :: r); rw [if_neg hc])
theorem reads {x : Str} (h : isNumB x.cps.toList = true) : (∃ n, intText? x = some n) ∧ x.length ≤ 61 := by
  obtain ⟨ds, hd, h1, h2, h3⟩ := isNum_cases h
  have hne : ds ≠ [] := fun e => by rw [e] at h1; simp at h1
  have hl : x.length = x.cps.toList.length := by rw [Array.length_toList]; rfl
  rcases hd with e | e
  · have l61 : x.length ≤ 61 := by rw [hl, e]; omega
    exact ⟨⟨_, intText_digits (by rw [e]; exact h3) (by rw [e]; exact hne) (by omega)⟩, l61⟩
  · have l61 : x.length ≤ 61 := by rw [hl, e, List.length_cons]; omega
    exact ⟨⟨_, intText_neg e h3 hne (by omega)⟩, l61⟩
theorem reads_tx {n : Int} (h : n.natAbs < 10 ^ 60) : intText? (tx n) = some n := by
  have hl := (reads (num_tx h)).2
  cases n with
  | ofNat m =>
    have e : (tx (Int.ofNat m)).cps.toList = dg m := tx_nat m
    have hne : dg m ≠ [] := fun z => by have := dg_pos m; rw [z] at this; simp at this
    have r := intText_digits (x := tx (Int.ofNat m)) (by rw [e]; exact dg_digits m) (by rw [e]; exact hne) (by omega)
    rw [e, dg_val] at r
    exact r
  | negSucc m =>
    have hne : dg (m + 1) ≠ [] := fun z => by have := dg_pos (m + 1); rw [z] at this; simp at this
    have r := intText_neg (tx_neg m) (dg_digits (m + 1)) hne (by omega)
    rw [dg_val] at r
    exact r
noncomputable def valT (x : Str) : Int := (intText? x).getD 0
theorem val_tx {n : Int} (h : n.natAbs < 10 ^ 60) : valT (tx n) = n := by unfold valT; rw [reads_tx h]; rfl
theorem tx_log {n : Int} (h : n.natAbs < 10 ^ 60) : n.natAbs.log2 < 1920 := by
  by_cases h0 : n.natAbs = 0
  · rw [h0]; decide
  · exact (Nat.log2_lt h0).mpr (Nat.lt_trans h (by decide +kernel))
theorem tx_len {n : Int} (h : n.natAbs < 10 ^ 60) : (tx n).length ≤ 61 := (reads (num_tx h)).2
theorem str_ext {x y : Str} (h : x.cps.toList = y.cps.toList) : x = y := by
  cases x with | mk a => cases y with | mk b => exact congrArg Str.mk (Array.toList_inj.mp h)
theorem cat_list (x y : Str) : (x ++ y).cps.toList = x.cps.toList ++ y.cps.toList := by rw [Str.cps_append, Array.toList_append]
theorem tx_minus {n : Int} (h : n < 0) : ("-" : Str) ++ tx (-n) = tx n := by
  apply str_ext
  cases n with
  | ofNat m => exact absurd h (by show ¬ ((m : Int) < 0); omega)
  | negSucc m =>
    have e : -(Int.negSucc m) = ((m + 1 : Nat) : Int) := rfl
    rw [cat_list, tx_neg, e, tx_nat]
    rfl
end RF
set_option Elab.async false
set_option linter.all false
set_option maxRecDepth 100000
set_option maxHeartbeats 2000000
namespace RF
open PySem PySem.NumText L2
inductive isp_ntext (a : V) (H : Hp) (Q : VK) (E : XK) : Prop
  | mk (n : Int) (h0 : a = .int n) (hn : n.natAbs < 10 ^ 60) (q : ∀ H', Same H H' → Q (.str (tx n)) H') : isp_ntext a H Q E
noncomputable def sp_ntext : Sp := Sp1 isp_ntext
inductive isp_ntext0 (a : V) (H : Hp) (Q : VK) (E : XK) : Prop
  | mk (n : Int) (h0 : a = .int n) (h1 : 0 ≤ n) (hn : n.natAbs < 10 ^ 60) (q : ∀ H', Same H H' → Q (.str (tx n)) H') : isp_ntext0 a H Q E
noncomputable def sp_ntext0 : Sp := Sp1 isp_ntext0
inductive isp_isnum (a : V) (H : Hp) (Q : VK) (E : XK) : Prop
  | mk (x : Str) (h0 : a = .str x) (hl : x.length ≤ 100000) (q : ∀ H', Same H H' → Q (.bl (isNumB x.cps.toList)) H') : isp_isnum a H Q E
noncomputable def sp_isnum : Sp := Sp1 isp_isnum
noncomputable def AllNum (ts : List Str) : Prop := ∀ t ∈ ts, isNumB t.cps.toList = true
inductive isp_nfrom (cX : Addr) (a : V) (H : Hp) (Q : VK) (E : XK) : Prop
  | mk (l : Addr) (ts : List Str) (h0 : a = .ref l) (e : H l = some (.lst (ts.map V.str))) (hl : ts.length ≤ 100000) (hz : ∀ t ∈ ts, t.length ≤ 100000) (yes : AllNum ts → ∀ l' H', Same H H' → H l' = none → H' l' = some (.lst ((ts.map valT).map V.int)) → Q (.ref l') H')
      (no : ¬ AllNum ts → ∀ d H', Same H H' → H' d = some (.xd [("row", .int 1)]) → E (.ref cX) (some d) H') : isp_nfrom cX a H Q E
noncomputable def sp_nfrom (cX : Addr) : Sp := Sp1 (isp_nfrom cX)
theorem cutS_all {z : Str} {l u : Option Int} {cs : List Nat} (e : (Builtin.Str.strSliceIndices l u 1 z.length).filterMap (z.cps[·]?) = cs) (hc : (Builtin.Str.strSliceIndices l u 1 z.length).length = z.length → cs = z.cps.toList) : (cutS z l u).cps.toList = cs := by
  unfold cutS
  by_cases h : ((Builtin.Str.strSliceIndices l u 1 z.length).length == z.length) = true
  · rw [if_pos h]; exact (hc (by simpa using h)).symm
  · rw [if_neg h]; exact e
theorem cutS_from {z : Str} {a : Nat} (h : a ≤ z.length) : (cutS z (some (a : Int)) none).cps.toList = z.cps.toList.drop a := by
  have e0 : Builtin.Str.strSliceIndices (some (a : Int)) none 1 z.length = Builtin.Str.strSliceIndices (some (a : Int)) (some (z.length : Int)) 1 z.length := by
    have e1 : max (0 : Int) (min (z.length : Int) (z.length : Int)) = z.length := by omega
    have e2 : ¬ ((z.length : Int) < 0) := by omega
    simp only [Builtin.Str.strSliceIndices, e1, e2, if_false, show ((1 : Int) > 0) = True from by simp, if_true]
  have lz : z.cps.toList.length = z.length := by rw [Array.length_toList]; rfl
  apply cutS_all
  · rw [e0, StrLaws.sliced_plain z h (Nat.le_refl _), List.take_of_length_le]
    rw [List.length_drop, lz]; exact Nat.le_refl _
  · rw [e0, StrLaws.strSliceIndices_plain h (Nat.le_refl _), List.length_map, List.length_range]
    intro q
    have : a = 0 ∨ z.length = 0 := by omega
    rcases this with r | r
    · rw [r, List.drop_zero]
    · have : z.cps.toList = [] := List.length_eq_zero_iff.mp (by rw [lz]; exact r)
      rw [this, List.drop_nil]
theorem cutS_to {z : Str} {b : Nat} (h : b ≤ z.length) : (cutS z none (some (b : Int))).cps.toList = z.cps.toList.take b := by
  have e0 : Builtin.Str.strSliceIndices none (some (b : Int)) 1 z.length = Builtin.Str.strSliceIndices (some ((0 : Nat) : Int)) (some (b : Int)) 1 z.length := by
    have e1 : max (0 : Int) (min ((0 : Nat) : Int) (z.length : Int)) = 0 := by omega
    have e2 : ¬ (((0 : Nat) : Int) < 0) := by omega
    simp only [Builtin.Str.strSliceIndices, e1, e2, if_false, show ((1 : Int) > 0) = True from by simp, if_true]
  have lz : z.cps.toList.length = z.length := by rw [Array.length_toList]; rfl
  apply cutS_all
  · rw [e0, StrLaws.sliced_plain z (Nat.zero_le b) h, List.drop_zero, Nat.sub_zero]
  · rw [e0, StrLaws.strSliceIndices_plain (Nat.zero_le b) h, List.length_map, List.length_range]
    intro q
    exact List.take_of_length_le (by rw [lz]; omega)
theorem starts_minus (z : Str) : (decide (0 + ("-" : Str).length ≤ z.length) && Builtin.Str.subAt z "-" 0) = decide (z.cps.toList.head? = some 45) := by
  have lz : z.length = z.cps.toList.length := by rw [Array.length_toList]; rfl
  have e1 : ("-" : Str).length = 1 := rfl
  have e2 : ("-" : Str).cps.toList = [45] := rfl
  rw [StrLaws.subAt_eq, lz, e1, e2, List.drop_zero]
  cases z.cps.toList with
  | nil => rfl
  | cons c r =>
    have e3 : (c :: r).take 1 = [c] := rfl
    have e4 : decide (0 + 1 ≤ (c :: r).length) = true := decide_eq_true (by rw [List.length_cons]; omega)
    rw [e3, e4, Bool.true_and]
    apply Bool.eq_iff_iff.mpr
    simp
theorem cut_of_minus {cs : List Nat} (h : cs.head? = some 45) : cutM cs = cs.drop 1 := by
  cases cs with
  | nil => cases h
  | cons c r =>
    have : c = 45 := by simpa using h
    show (if c = 45 then r else c :: r) = r
    rw [if_pos this]
theorem cut_of_not {cs : List Nat} (h : ¬ cs.head? = some 45) : cutM cs = cs := by
  cases cs with
  | nil => rfl
  | cons c r => exact if_neg fun e => h (by rw [e]; rfl)
theorem joinOk_one {t : Str} (h : t.length ≤ 1000) : JoinOk "" [t].reverse = true := by
  unfold JoinOk
  rw [Bool.not_eq_true']
  exact StrLaws.joinFits (B := 1000) (by intro y hy; have : y = t := by simpa using hy
                                         rw [this]; exact h) (by show 1 * 1000 + 1 * 0 ≤ 16777216; decide)
theorem iteTe3 {c : Bool} {A B : Prop} (h : c = true) (a : A) : if c = true then A else B := by rw [if_pos h]; exact a
theorem iteFe3 {c : Bool} {A B : Prop} (h : c = false) (b : B) : if c = true then A else B := by rw [if_neg (by rw [h]; exact Bool.false_ne_true)]; exact b
noncomputable def nuV : V → V
  | .str t => .bl (isNumB t.cps.toList)
  | v => v
noncomputable def itV : V → V
  | .str t => .int (valT t)
  | v => v
end RF
set_option Elab.async false
set_option linter.all false
set_option maxRecDepth 100000
set_option maxHeartbeats 2000000
namespace L2
open PySem PySem.Spec PyProof.Rows Builtin Builtin.Str
section
variable {X : Cx}
theorem strsFrom_vals : ∀ (ps : List Str) (k : Nat), Vals (ps.map V.str) (strsFrom k ps)
  | [], _ => .nil
  | _ :: r, k => .cons ⟨_, rfl⟩ (strsFrom_vals r (k + 1))
inductive rSplit (x : V) (vs : List V) (H : Hp) (Q : VK) : Prop
  | mk (z : Str) (c : Nat) (h0 : x = .str z) (h1 : vs = [.str ⟨#[c]⟩]) (hz : z.length ≤ 1000000) (q : ∀ p, H p = none → Q (.ref p) (upd H p (.lst ((Txt.split z ⟨#[c]⟩).map V.str)))) : rSplit x vs H Q
theorem mt_split : MtM X "str.split" rSplit := by
  intro pins s σ H x vs v us Q I rx rv h
  obtain ⟨z, c, rfl, rfl, hz, q⟩ := h
  obtain ⟨t, rfl⟩ := (show ∃ t, v = Value.str z t from rx)
  obtain ⟨u, rfl, ru⟩ := rv.one
  obtain ⟨t', rfl⟩ := (show ∃ t, u = Value.str ⟨#[c]⟩ t from ru)
  have hs : z.length ≤ sizeLine := Nat.le_trans hz (by decide)
  have q := q s.heap.objs.size (I.hok.fresh (Nat.le_refl _))
  cases h1 : (decide (z.length < (⟨#[c]⟩ : Str).length) || decide (strKind z < strKind ⟨#[c]⟩))
  · cases hf : (occurrences z ⟨#[c]⟩ 0 z.length (z.length + 1)).isEmpty
    · have e : Txt.split z ⟨#[c]⟩ = partsBetween z (occurrences z ⟨#[c]⟩ 0 z.length (z.length + 1)) (⟨#[c]⟩ : Str).length := by
        unfold Txt.split; rw [h1, hf]; rfl
      have hl := split_le z ⟨#[c]⟩
      rw [e] at q hl
      have h2 : 1000002 ≤ sizeLine := by decide
      refine call_meets F.slot_str_split (typeIs_str _ _ _) F.entry_str_split (F.args_str_split_2 _ _) (meets_str_split_sep z ⟨#[c]⟩ t t' h1 rfl hf hs (by omega)) ?_
      exact ⟨.ref _, _, I.lnew (strsFrom_vals _ _) (by rw [List.length_map]; omega), rfl, q⟩
    · have e : Txt.split z ⟨#[c]⟩ = [z] := by unfold Txt.split; rw [h1, hf]; rfl
      rw [e] at q
      refine call_meets F.slot_str_split (typeIs_str _ _ _) F.entry_str_split (F.args_str_split_2 _ _) (meets_str_split_not_found z ⟨#[c]⟩ t t' h1 rfl hf) ?_
      exact ⟨.ref _, _, I.lnew (ys := [.str z]) (t' := s.toks) (its := [.str z t]) (.cons ⟨_, rfl⟩ .nil) (by show 1 ≤ sizeLine; decide), rfl, q⟩
  · have e : Txt.split z ⟨#[c]⟩ = [z] := by unfold Txt.split; rw [h1]; rfl
    rw [e] at q
    refine call_meets F.slot_str_split (typeIs_str _ _ _) F.entry_str_split (F.args_str_split_2 _ _) (meets_str_split_cannot_occur z ⟨#[c]⟩ t t' h1) ?_
    exact ⟨.ref _, _, I.lnew (ys := [.str z]) (t' := s.toks) (its := [.str z t]) (.cons ⟨_, rfl⟩ .nil) (by show 1 ≤ sizeLine; decide), rfl, q⟩
end
end L2
set_option Elab.async false
set_option linter.all false
set_option maxRecDepth 100000
set_option maxHeartbeats 2000000
namespace RF
open PySem PySem.NumText L2
noncomputable def jl (c : Nat) : List (List Nat) → List Nat
  | [] => []
  | [x] => x
  | x :: y :: r => x ++ c :: jl c (y :: r)
theorem app_c {c : Nat} : ∀ {x y A B : List Nat}, c ∉ x → c ∉ y → x ++ c :: A = y ++ c :: B → x = y ∧ A = B
  | [], [], _, _, _, _, h => ⟨rfl, by injection h⟩
  | [], b :: y, _, _, _, h2, h => by injection h with h _; exact absurd (h ▸ List.mem_cons_self) h2
  | a :: x, [], _, _, h1, _, h => by injection h with h _; exact absurd (h ▸ List.mem_cons_self) h1
  | a :: x, b :: y, _, _, h1, h2, h => by
    injection h with h h'
    obtain ⟨e1, e2⟩ := app_c (fun z => h1 (List.mem_cons_of_mem _ z)) (fun z => h2 (List.mem_cons_of_mem _ z)) h'
    exact ⟨by rw [h, e1], e2⟩
theorem jl_inj {c : Nat} : ∀ {xs ys : List (List Nat)}, xs ≠ [] → ys ≠ [] → (∀ x ∈ xs, c ∉ x) → (∀ y ∈ ys, c ∉ y) → jl c xs = jl c ys → xs = ys
  | [], _, h, _, _, _, _ => absurd rfl h
  | _ :: _, [], _, h, _, _, _ => absurd rfl h
  | [x], [y], _, _, _, _, h => by rw [show x = y from h]
  | [x], y :: y2 :: s, _, _, h1, _, h => by
    have h : x = y ++ c :: jl c (y2 :: s) := h
    exact absurd (by rw [h]; exact List.mem_append_right _ List.mem_cons_self) (h1 x List.mem_cons_self)
  | x :: x2 :: r, [y], _, _, _, h2, h => by
    have h : x ++ c :: jl c (x2 :: r) = y := h
    exact absurd (by rw [← h]; exact List.mem_append_right _ List.mem_cons_self) (h2 y List.mem_cons_self)
  | x :: x2 :: r, y :: y2 :: s, _, _, h1, h2, h => by
    obtain ⟨e1, e2⟩ := app_c (h1 x List.mem_cons_self) (h2 y List.mem_cons_self) h
    have := jl_inj (xs := x2 :: r) (ys := y2 :: s) (fun z => nomatch z) (fun z => nomatch z) (fun z hz => h1 z (List.mem_cons_of_mem _ hz)) (fun z hz => h2 z (List.mem_cons_of_mem _ hz)) e2
    rw [e1, this]
theorem join_jl (c : Nat) : ∀ ts : List Str, (Str.join ⟨#[c]⟩ ts).cps.toList = jl c (ts.map fun t => t.cps.toList)
  | [] => rfl
  | [t] => rfl
  | t :: u :: r => by
    have ih := join_jl c (u :: r)
    show (t ++ ⟨#[c]⟩ ++ Str.join ⟨#[c]⟩ (u :: r)).cps.toList = t.cps.toList ++ c :: jl c ((u :: r).map fun t => t.cps.toList)
    rw [cat_list, cat_list, ih, List.append_assoc]
    rfl
theorem lists_inj : ∀ {ts us : List Str}, (ts.map fun t => t.cps.toList) = us.map (fun t => t.cps.toList) → ts = us
  | [], [], _ => rfl
  | [], _ :: _, h => by cases h
  | _ :: _, [], h => by cases h
  | t :: ts, u :: us, h => by
    rw [List.map_cons, List.map_cons] at h
    injection h with h1 h2
    rw [str_ext h1, lists_inj h2]
theorem split_join {c : Nat} {ts : List Str} (h : ts ≠ []) (hf : ∀ t ∈ ts, c ∉ t.cps.toList) : Txt.split (Txt.join ⟨#[c]⟩ ts) ⟨#[c]⟩ = ts := by
  have e0 : Txt.join ⟨#[c]⟩ ts = Str.join ⟨#[c]⟩ ts := StrLaws.glued_eq_join _ _
  rw [e0]
  have j := StrLaws.join_split (Str.join ⟨#[c]⟩ ts) ⟨#[c]⟩
  have f := StrLaws.split_free (Str.join ⟨#[c]⟩ ts) c
  have p := PyProof.Rows.split_pos (Str.join ⟨#[c]⟩ ts) ⟨#[c]⟩
  generalize Txt.split (Str.join ⟨#[c]⟩ ts) ⟨#[c]⟩ = ps at *
  have e : (Str.join ⟨#[c]⟩ ps).cps.toList = (Str.join ⟨#[c]⟩ ts).cps.toList := congrArg (fun s : Str => s.cps.toList) j
  rw [join_jl, join_jl] at e
  refine lists_inj (jl_inj (c := c) (fun z => ?_) (fun z => h (List.map_eq_nil_iff.mp z)) (fun x hx => ?_) (fun x hx => ?_) e)
  · rw [List.map_eq_nil_iff.mp z] at p; simp at p
  · obtain ⟨t, ht, rfl⟩ := List.mem_map.mp hx; exact f t ht
  · obtain ⟨t, ht, rfl⟩ := List.mem_map.mp hx; exact hf t ht
theorem tx_signs {n : Int} {c : Nat} (h : c ∈ (tx n).cps.toList) : c = 45 ∨ (48 ≤ c ∧ c ≤ 57) := by
  cases n with
  | ofNat m => rw [show (tx (Int.ofNat m)).cps.toList = dg m from tx_nat m] at h; exact .inr (dg_digits m c h)
  | negSucc m =>
    rw [tx_neg] at h
    rcases List.mem_cons.mp h with e | e
    · exact .inl e
    · exact .inr (dg_digits _ c e)
theorem jl_mem {c d : Nat} : ∀ {xs : List (List Nat)}, d ∈ jl c xs → d = c ∨ ∃ x ∈ xs, d ∈ x
  | [], h => by cases h
  | [x], h => .inr ⟨x, List.mem_cons_self, h⟩
  | x :: y :: r, h => by
    rcases List.mem_append.mp (show d ∈ x ++ c :: jl c (y :: r) from h) with h | h
    · exact .inr ⟨x, List.mem_cons_self, h⟩
    · rcases List.mem_cons.mp h with h | h
      · exact .inl h
      · rcases jl_mem h with e | ⟨z, hz, e⟩
        · exact .inl e
        · exact .inr ⟨z, List.mem_cons_of_mem _ hz, e⟩
theorem jl_len {c B : Nat} : ∀ {xs : List (List Nat)}, (∀ x ∈ xs, x.length ≤ B) → (jl c xs).length ≤ xs.length * (B + 1)
  | [], _ => by simp [jl]
  | [x], h => by have := h x List.mem_cons_self; show x.length ≤ 1 * (B + 1); omega
  | x :: y :: r, h => by
    have h1 := h x List.mem_cons_self
    have h2 := jl_len (c := c) (xs := y :: r) fun z hz => h z (List.mem_cons_of_mem _ hz)
    show (x ++ c :: jl c (y :: r)).length ≤ _
    rw [List.length_append, List.length_cons, List.length_cons (a := x), Nat.succ_mul]
    omega
theorem join_list (c : Nat) (ts : List Str) : (Txt.join ⟨#[c]⟩ ts).cps.toList = jl c (ts.map fun t => t.cps.toList) := by
  rw [show Txt.join ⟨#[c]⟩ ts = Str.join ⟨#[c]⟩ ts from StrLaws.glued_eq_join _ _, join_jl]
theorem str_len (x : Str) : x.length = x.cps.toList.length := by rw [Array.length_toList]; rfl
theorem join_ok {sep : Str} {ts : List Str} (h1 : sep.length ≤ 1) (h2 : ∀ t ∈ ts, t.length ≤ 1000) (h3 : ts.length ≤ 1000) : JoinOk sep ts = true := by
  unfold JoinOk
  rw [Bool.not_eq_true']
  refine StrLaws.joinFits (B := 1000) h2 ?_
  have a : ts.length * 1000 ≤ 1000 * 1000 := Nat.mul_le_mul_right _ h3
  have b : ts.length * sep.length ≤ 1000 * 1 := Nat.mul_le_mul h3 h1
  omega
end RF
set_option linter.all false
namespace RF
open PySem L2
end RF
set_option Elab.async false
set_option linter.all false
set_option maxRecDepth 100000
set_option maxHeartbeats 2000000
namespace L2
open PySem PySem.Spec PyProof.Rows Builtin Builtin.Str
section
variable {X : Cx}
theorem thnp {α : Type} {t : Sem α} {Q Q' : α → Shared → Prop} {M : Model} {A : Around} {E : Value → Shared → Prop} {s : Shared} (hp : 0 < s.toks) (h : wpAny M A t Q E s) (hQ : ∀ a s', 0 < s'.toks → Q a s' → Q' a s') : wpAny M A t Q' E s :=
  wpAny_mono (wpAny_toks_of (n := 1) hp h) (fun a s' x => hQ a s' x.1 x.2) fun _ _ x => x.2
noncomputable def PEp (X : Cx) (e : Expr) (t : TE) : Prop :=
  ∀ (pins : List (Addr × Obj)) (s : Shared) (σ : St) (H : Hp) (Q : VK), Inv X pins σ H s → 0 < s.toks → t σ H Q → wpAny (model X.prog X.w) X.A (eval e X.env) (EP X pins σ Q) X.xe s
noncomputable def PAp (X : Cx) (es : List Expr) (t : TA) : Prop :=
  ∀ (pos : Pos) (pins : List (Addr × Obj)) (s : Shared) (σ : St) (H : Hp) (Q : List V → Hp → Prop), Inv X pins σ H s → 0 < s.toks → t σ H Q → wpAny (model X.prog X.w) X.A (spliced (backTo pos (starEach es X.env))) (AP X pins σ Q) X.xe s
noncomputable def PEb (X : Cx) (e : Expr) (t : TE) : Prop :=
  ∀ (pins : List (Addr × Obj)) (s : Shared) (σ : St) (H : Hp) (Q : VK), Inv X pins σ H s → t σ H Q → wpAny (model X.prog X.w) X.A (eval e X.env) (fun u s' => 0 < s'.toks ∧ EP X pins σ Q u s') X.xe s
variable {e a b : Expr} {es : List Expr} {te ta tb : TE} {t : TA} {pos : Pos}
theorem PE.p (h : PE X e te) : PEp X e te := fun pins s σ H Q I _ q => h pins s σ H Q I q
theorem pap_nil : PAp X [] tNil := fun _ _ _ _ H Q I _ h => Calls.spliced_nil ⟨[], H, I, .nil, h⟩
theorem pap_cons (ha : PEp X e te) (hr : PAp X es t) (hs : starEach (e :: es) X.env = (false, eval e X.env) :: starEach es X.env := by rfl) : PAp X (e :: es) (tCons te t) := by
  intro pos pins s σ H Q I hp h
  rw [hs]
  show wpAny _ _ (spliced ((false, eval e X.env) :: backTo pos (starEach es X.env))) _ _ s
  refine Calls.spliced_cons (thnp hp (ha pins s σ H _ I hp h) fun u s1 hp1 ⟨x, H1, I1, r1, q1⟩ => ?_)
  exact thn (hr pos pins s1 σ H1 _ I1 hp1 q1) fun us s2 ⟨xs, H2, I2, r2, q2⟩ => ⟨x :: xs, H2, I2, .cons r1 r2, q2⟩
end
end L2
set_option Elab.async false
set_option linter.all false
set_option maxRecDepth 100000
set_option maxHeartbeats 2000000
namespace RF
open PySem PySem.NumText L2 Builtin Builtin.Str
theorem jl_cons {c : Nat} {x : List Nat} {ys : List (List Nat)} (h : ys ≠ []) : jl c (x :: ys) = x ++ c :: jl c ys := by
  cases ys with
  | nil => exact absurd rfl h
  | cons y r => rfl
theorem jl_app {c : Nat} : ∀ {xs ys : List (List Nat)}, xs ≠ [] → ys ≠ [] → jl c (xs ++ ys) = jl c xs ++ c :: jl c ys
  | [], _, h, _ => absurd rfl h
  | [x], ys, _, h => by rw [List.singleton_append, jl_cons h]; rfl
  | x :: y :: r, ys, _, h => by
    have ih := jl_app (c := c) (xs := y :: r) (ys := ys) (List.cons_ne_nil _ _) h
    rw [List.cons_append, jl_cons (by rw [List.cons_append]; exact fun z => nomatch z), ih]
    show x ++ c :: (jl c (y :: r) ++ c :: jl c ys) = x ++ c :: jl c (y :: r) ++ c :: jl c ys
    rw [List.append_assoc, List.cons_append]
theorem txs_num {ns : List Int} (h : ∀ n ∈ ns, n.natAbs < 10 ^ 60) : AllNum (ns.map tx) := fun t ht => by
  obtain ⟨n, hn, rfl⟩ := List.mem_map.mp ht
  exact num_tx (h n hn)
theorem txs_val {ns : List Int} (h : ∀ n ∈ ns, n.natAbs < 10 ^ 60) : (ns.map tx).map valT = ns := by
  rw [List.map_map]
  conv => rhs; rw [← List.map_id ns]
  exact List.map_congr_left fun n hn => val_tx (h n hn)
end RF
set_option Elab.async false
set_option linter.all false
set_option maxRecDepth 100000
set_option maxHeartbeats 2000000
namespace RF
open PySem PySem.NumText L2 Builtin Builtin.Str
noncomputable def swp (c d a : Nat) : Nat := if a = c then d else a
theorem swp_free {c d : Nat} {p : List Nat} (h : c ∉ p) : p.map (swp c d) = p := by
  conv => rhs; rw [← List.map_id p]
  exact List.map_congr_left fun a ha => by
    show (if a = c then d else a) = a
    rw [if_neg]
    rintro rfl
    exact h ha
theorem jl_map {c d : Nat} : ∀ {ps : List (List Nat)}, (∀ p ∈ ps, c ∉ p) → (jl c ps).map (swp c d) = jl d ps
  | [], _ => rfl
  | [p], h => swp_free (h p List.mem_cons_self)
  | p :: q :: r, h => by
    have ih := jl_map (d := d) (ps := q :: r) fun x hx => h x (List.mem_cons_of_mem _ hx)
    show (p ++ c :: jl c (q :: r)).map (swp c d) = p ++ d :: jl d (q :: r)
    rw [List.map_append, List.map_cons, ih, swp_free (h p List.mem_cons_self)]
    show p ++ (if c = c then d else c) :: _ = _
    rw [if_pos rfl]
theorem rep_map (x : Str) (c d : Nat) : (Txt.replace x ⟨#[c]⟩ ⟨#[d]⟩).cps.toList = x.cps.toList.map (swp c d) := by
  rw [StrLaws.replace_one, join_jl]
  have e := join_jl c (Txt.split x ⟨#[c]⟩)
  rw [StrLaws.join_split] at e
  rw [e, jl_map]
  intro p hp
  obtain ⟨t, ht, rfl⟩ := List.mem_map.mp hp
  exact StrLaws.split_free x c t ht
noncomputable def dotW (x : Str) : List Str := Txt.split (Txt.replace x ⟨#[58]⟩ ⟨#[46]⟩) ⟨#[46]⟩
theorem dotW_of {x : Str} {ws : List Str} (h : ws ≠ []) (hf : ∀ t ∈ ws, 46 ∉ t.cps.toList) (e : x.cps.toList.map (swp 58 46) = jl 46 (ws.map fun t => t.cps.toList)) : dotW x = ws := by
  have e2 : Txt.replace x ⟨#[58]⟩ ⟨#[46]⟩ = Txt.join ⟨#[46]⟩ ws := str_ext (by rw [rep_map, e, join_list])
  unfold dotW
  rw [e2]
  exact split_join h hf
noncomputable abbrev Dj (ws : List Str) : Str := Txt.join ⟨#[46]⟩ ws
noncomputable def figW (k s : Nat) (ws : List Str) : Str := if s = 0 then Dj (ws.take k) else Dj (ws.take k) ++ ":" ++ Dj (ws.drop k)
noncomputable def figT (k s : Nat) (ns : List Int) : Str := figW k s (ns.map tx)
theorem figW_map {k s : Nat} {ws : List Str} (hk : 1 ≤ k) (hl : ws.length = k + s) (hf : ∀ t ∈ ws, 58 ∉ t.cps.toList) : (figW k s ws).cps.toList.map (swp 58 46) = jl 46 (ws.map fun t => t.cps.toList) := by
  have free : ∀ {us : List Str}, (∀ t ∈ us, t ∈ ws) → (Dj us).cps.toList.map (swp 58 46) = jl 46 (us.map fun t => t.cps.toList) := fun {us} hu => by
    rw [join_list]
    refine swp_free fun z => ?_
    rcases jl_mem z with z | ⟨p, hp, z⟩
    · cases z
    · obtain ⟨t, ht, rfl⟩ := List.mem_map.mp hp
      exact hf t (hu t ht) z
  unfold figW
  by_cases hs : s = 0
  · rw [if_pos hs, free fun t ht => List.mem_of_mem_take ht, List.take_of_length_le (by omega)]
  · rw [if_neg hs, cat_list, cat_list, List.map_append, List.map_append, free fun t ht => List.mem_of_mem_take ht, free fun t ht => List.mem_of_mem_drop ht]
    have hA : (ws.take k).map (fun t => t.cps.toList) ≠ [] := fun z => by
      have := congrArg List.length z
      rw [List.length_map, List.length_take, List.length_nil] at this
      omega
    have hB : (ws.drop k).map (fun t => t.cps.toList) ≠ [] := fun z => by
      have := congrArg List.length z
      rw [List.length_map, List.length_drop, List.length_nil] at this
      omega
    have e := jl_app (c := 46) hA hB
    rw [← List.map_append, List.take_append_drop] at e
    rw [e, List.append_assoc]
    rfl
theorem figW_words {k s : Nat} {ws : List Str} (hk : 1 ≤ k) (hl : ws.length = k + s) (hf : ∀ t ∈ ws, 58 ∉ t.cps.toList) (h46 : ∀ t ∈ ws, 46 ∉ t.cps.toList) : dotW (figW k s ws) = ws :=
  dotW_of (fun z => by rw [z] at hl; simp at hl; omega) h46 (figW_map hk hl hf)
theorem tx_no {c : Nat} (h : c ≠ 45 ∧ ¬ (48 ≤ c ∧ c ≤ 57)) (n : Int) : c ∉ (tx n).cps.toList := fun z => by
  rcases tx_signs z with e | e
  · exact h.1 e
  · exact h.2 e
theorem txs_no {c : Nat} (h : c ≠ 45 ∧ ¬ (48 ≤ c ∧ c ≤ 57)) (ns : List Int) : ∀ t ∈ ns.map tx, c ∉ t.cps.toList := fun t ht => by
  obtain ⟨n, _, rfl⟩ := List.mem_map.mp ht
  exact tx_no h n
theorem figT_words {k s : Nat} {ns : List Int} (hk : 1 ≤ k) (hl : ns.length = k + s) : dotW (figT k s ns) = ns.map tx :=
  figW_words hk (by rw [List.length_map]; exact hl) (txs_no (by decide) ns) (txs_no (by decide) ns)
structure FigOk (k s : Nat) (ds : List Int) (x : Str) : Prop where
  n : AllNum (dotW x)
  v : Valid ds ((dotW x).map valT)
  t : figT k s ((dotW x).map valT) = x
theorem valid_60 {ds ns : List Int} (hd : ∀ d ∈ ds, 2 ≤ d ∧ d ≤ 1000000) (h : Valid ds ns) : ∀ n ∈ ns, 0 ≤ n ∧ n.natAbs < 10 ^ 60 := fun n hn => by
  obtain ⟨j, hj⟩ := List.mem_iff_getElem?.mp hn
  have hlt := (List.getElem?_eq_some_iff.mp hj).1
  obtain ⟨d, hdj⟩ : ∃ d, ds[j]? = some d := ⟨ds[j]'(by rw [← h.len]; exact hlt), List.getElem?_eq_getElem _⟩
  have r := h.rng j d n hdj hj
  have := hd d (List.mem_iff_getElem?.mpr ⟨j, hdj⟩)
  have e : (1000001 : Nat) ≤ 10 ^ 60 := by decide
  exact ⟨r.1, by omega⟩
theorem figT_ok {k s : Nat} {ds ns : List Int} (hk : 1 ≤ k) (hl : ds.length = k + s) (hd : ∀ d ∈ ds, 2 ≤ d ∧ d ≤ 1000000) (h : Valid ds ns) : FigOk k s ds (figT k s ns) ∧ (dotW (figT k s ns)).map valT = ns := by
  have hw := figT_words (s := s) hk (by rw [h.len]; exact hl) (ns := ns)
  have h60 := valid_60 hd h
  have ev : (dotW (figT k s ns)).map valT = ns := by rw [hw]; exact txs_val fun n hn => (h60 n hn).2
  exact ⟨⟨by rw [hw]; exact txs_num fun n hn => (h60 n hn).2, by rw [ev]; exact h, by rw [ev]⟩, ev⟩
theorem bad_len {k s : Nat} {ds : List Int} {y : Str} (h : (dotW y).length ≠ ds.length) : ¬ FigOk k s ds y := fun o => h (by rw [← o.v.len, List.length_map])
theorem bad_num {k s : Nat} {ds : List Int} {y w : Str} (hw : w ∈ dotW y) (h : isNumB w.cps.toList = false) : ¬ FigOk k s ds y := fun o => by
  have := o.n w hw
  rw [h] at this; cases this
theorem bad_val {k s : Nat} {ds ms : List Int} {y : Str} (e : dotW y = ms.map tx) (h60 : ∀ n ∈ ms, n.natAbs < 10 ^ 60) (h : ¬ Valid ds ms) : ¬ FigOk k s ds y := fun o => by
  have := o.v
  rw [e, txs_val h60] at this
  exact h this
theorem figT_sign {k s : Nat} {ns : List Int} (h : ∀ n ∈ ns, 0 ≤ n) {c : Nat} (hc : c ∈ (figT k s ns).cps.toList) : c = 46 ∨ (c = 58 ∧ s ≠ 0) ∨ (48 ≤ c ∧ c ≤ 57) := by
  have one : ∀ {us : List Int}, (∀ n ∈ us, n ∈ ns) → c ∈ (Dj (us.map tx)).cps.toList → c = 46 ∨ (48 ≤ c ∧ c ≤ 57) := fun {us} hu hc => by
    rw [join_list] at hc
    rcases jl_mem hc with z | ⟨p, hp, z⟩
    · exact .inl z
    · obtain ⟨t, ht, rfl⟩ := List.mem_map.mp hp
      obtain ⟨n, hn, rfl⟩ := List.mem_map.mp ht
      have h0 := h n (hu n hn)
      obtain ⟨m, rfl⟩ := Int.eq_ofNat_of_zero_le h0
      rw [tx_nat] at z
      exact .inr (dg_digits m c z)
  unfold figT figW at hc
  by_cases hs : s = 0
  · rw [if_pos hs, ← List.map_take] at hc
    rcases one (fun n hn => List.mem_of_mem_take hn) hc with z | z
    · exact .inl z
    · exact .inr (.inr z)
  · rw [if_neg hs, cat_list, cat_list, ← List.map_take, ← List.map_drop] at hc
    rcases List.mem_append.mp hc with z | z
    · rcases List.mem_append.mp z with z | z
      · rcases one (fun n hn => List.mem_of_mem_take hn) z with z | z
        · exact .inl z
        · exact .inr (.inr z)
      · exact .inr (.inl ⟨List.mem_singleton.mp (show c ∈ [58] from z), hs⟩)
    · rcases one (fun n hn => List.mem_of_mem_drop hn) z with z | z
      · exact .inl z
      · exact .inr (.inr z)
theorem figOk_sign {k s : Nat} {ds : List Int} {y : Str} (hd : ∀ d ∈ ds, 2 ≤ d ∧ d ≤ 1000000) (o : FigOk k s ds y) {c : Nat} (hc : c ∈ y.cps.toList) : c = 46 ∨ (c = 58 ∧ s ≠ 0) ∨ (48 ≤ c ∧ c ≤ 57) := by
  rw [← o.t] at hc
  exact figT_sign (fun n hn => (valid_60 hd o.v n hn).1) hc
theorem bad_char {k s : Nat} {ds : List Int} {y : Str} (hd : ∀ d ∈ ds, 2 ≤ d ∧ d ≤ 1000000) {c : Nat} (hc : c ∈ y.cps.toList) (h1 : c ≠ 46) (h2 : c ≠ 58) (h3 : ¬ (48 ≤ c ∧ c ≤ 57)) : ¬ FigOk k s ds y := fun o => by
  rcases figOk_sign hd o hc with z | ⟨z, _⟩ | z
  · exact h1 z
  · exact h2 z
  · exact h3 z
theorem bad_colon {k : Nat} {ds : List Int} {y : Str} (hd : ∀ d ∈ ds, 2 ≤ d ∧ d ≤ 1000000) (hc : 58 ∈ y.cps.toList) : ¬ FigOk k 0 ds y := fun o => by
  rcases figOk_sign hd o hc with z | ⟨_, z⟩ | z
  · cases z
  · exact z rfl
  · omega
theorem bad_nocolon {k s : Nat} {ds : List Int} {y : Str} (hs : s ≠ 0) (hc : 58 ∉ y.cps.toList) : ¬ FigOk k s ds y := fun o => by
  apply hc
  rw [← o.t]
  unfold figT figW
  rw [if_neg hs, cat_list, cat_list]
  exact List.mem_append_left _ (List.mem_append_right _ (by decide))
theorem bad_empty {k s : Nat} {ds : List Int} : ¬ FigOk k s ds "" := fun o => by
  have e : dotW "" = [("" : Str)] := by decide +kernel
  have := o.n "" (by rw [e]; exact List.mem_cons_self)
  revert this
  decide
end RF
set_option Elab.async false
set_option linter.all false
set_option maxRecDepth 100000
set_option maxHeartbeats 2000000
namespace L2
open PySem PySem.Spec PyProof.Rows Builtin Builtin.Str
theorem thnpE {α : Type} {t : Sem α} {Q Q' : α → Shared → Prop} {M : Model} {A : Around} {E E' : Value → Shared → Prop} {s : Shared} (hp : 0 < s.toks) (h : wpAny M A t Q E s) (hQ : ∀ a s', 0 < s'.toks → Q a s' → Q' a s') (hE : ∀ a s', 0 < s'.toks → E a s' → E' a s') : wpAny M A t Q' E' s :=
  wpAny_mono (wpAny_toks_of (n := 1) hp h) (fun a s' x => hQ a s' x.1 x.2) fun a s' x => hE a s' x.1 x.2
noncomputable def PTp (X : Cx) (e : Expr) (t : TT) : Prop :=
  ∀ (pins : List (Addr × Obj)) (s : Shared) (σ : St) (H : Hp) (Q : Bool → Hp → Prop), Inv X pins σ H s → 0 < s.toks → t σ H Q → wpAny (model X.prog X.w) X.A (isTrue e X.env (eval e X.env)) (TP X pins σ Q) X.xe s
noncomputable def PSp (X : Cx) (st : Stmt) (t : TS) : Prop :=
  ∀ (pins : List (Addr × Obj)) (s : Shared) (σ : St) (H : Hp) (D : Ends), Inv X pins σ H s → 0 < s.toks → t D σ H → wpAny (model X.prog X.w) X.A (exec st X.env) (SP X pins D) X.xe s
noncomputable def PSsp (X : Cx) (st : List Stmt) (t : TS) : Prop :=
  ∀ (pins : List (Addr × Obj)) (s : Shared) (σ : St) (H : Hp) (D : Ends), Inv X pins σ H s → 0 < s.toks → t D σ H → wpAny (model X.prog X.w) X.A (execs st X.env) (SP X pins D) X.xe s
noncomputable def PSb (X : Cx) (st : Stmt) (t : TS) : Prop :=
  ∀ (pins : List (Addr × Obj)) (s : Shared) (σ : St) (H : Hp) (D : Ends), Inv X pins σ H s → t D σ H → wpAny (model X.prog X.w) X.A (exec st X.env) (fun f s' => 0 < s'.toks ∧ SP X pins D f s') X.xe s
noncomputable def PAb (X : Cx) (es : List Expr) (t : TA) : Prop :=
  ∀ (pos : Pos) (pins : List (Addr × Obj)) (s : Shared) (σ : St) (H : Hp) (Q : List V → Hp → Prop), Inv X pins σ H s → t σ H Q → wpAny (model X.prog X.w) X.A (spliced (backTo pos (starEach es X.env))) (fun us s' => 0 < s'.toks ∧ AP X pins σ Q us s') X.xe s
noncomputable def PExp (X : Cx) (e : Expr) (t : TEx) : Prop :=
  ∀ (pins : List (Addr × Obj)) (s : Shared) (σ : St) (H : Hp) (Q : VK) (E : XS), Inv X pins σ H s → 0 < s.toks → t σ H Q (fun C d H' => E σ C d H') → wpAny (model X.prog X.w) X.A (eval e X.env) (EP X pins σ Q) (XP X pins E) s
noncomputable def PSxp (X : Cx) (st : Stmt) (t : TSx) : Prop :=
  ∀ (pins : List (Addr × Obj)) (s : Shared) (σ : St) (H : Hp) (D : Ends) (E : XS), Inv X pins σ H s → 0 < s.toks → t D E σ H → wpAny (model X.prog X.w) X.A (exec st X.env) (SP X pins D) (XP X pins E) s
noncomputable def PSxsp (X : Cx) (st : List Stmt) (t : TSx) : Prop :=
  ∀ (pins : List (Addr × Obj)) (s : Shared) (σ : St) (H : Hp) (D : Ends) (E : XS), Inv X pins σ H s → 0 < s.toks → t D E σ H → wpAny (model X.prog X.w) X.A (execs st X.env) (SP X pins D) (XP X pins E) s
section
variable {X : Cx} {st : Stmt} {rest : List Stmt} {t u : TS} {e : Expr} {te : TE} {pos : Pos}
theorem PT.p {t : TT} (h : PT X e t) : PTp X e t := fun pins s σ H Q I _ q => h pins s σ H Q I q
theorem PS.p (h : PS X st t) : PSp X st t := fun pins s σ H D I _ q => h pins s σ H D I q
theorem PSs.p (h : PSs X rest t) : PSsp X rest t := fun pins s σ H D I _ q => h pins s σ H D I q
theorem PA.p {es : List Expr} {t : TA} (h : PA X es t) : PAp X es t := fun pos pins s σ H Q I _ q => h pos pins s σ H Q I q
theorem PSxs.p {t : TSx} (h : PSxs X rest t) : PSxsp X rest t := fun pins s σ H D E I _ q => h pins s σ H D E I q
theorem pssp_cons (h1 : PSp X st t) (h2 : PSsp X rest u) : PSsp X (st :: rest) (tSeq t u) := by
  intro pins s σ H D I hp h
  refine wpAny_execs_cons (thnp hp (h1 pins s σ H { D with nx := u D } I hp h) fun f s1 hp1 q => ?_)
  cases f with
  | next =>
    obtain ⟨σ', H', I', q⟩ := q
    exact h2 pins s1 σ' H' D I' hp1 q
  | ret v => exact q
  | brk => exact q
  | cont => exact q
theorem pssp_one (h1 : PSp X st t) : PSsp X [st] t := by
  intro pins s σ H D I hp h
  refine wpAny_execs_cons (thn (h1 pins s σ H D I hp h) fun f s1 q => ?_)
  cases f with
  | next => exact wpAny_execs_nil q
  | ret v => exact q
  | brk => exact q
  | cont => exact q
theorem pssp_cut (G : St → Hp → Prop) (h1 : PSp X st t) (h2 : PSsp X rest u) : PSsp X (st :: rest) (tCut G t u) := by
  intro pins s σ H D I hp ⟨hA, hB⟩
  refine wpAny_execs_cons (thnp hp (h1 pins s σ H { D with nx := G } I hp hB) fun f s1 hp1 q => ?_)
  cases f with
  | next =>
    obtain ⟨σ', H', I', q⟩ := q
    exact h2 pins s1 σ' H' D I' hp1 (hA σ' H' q)
  | ret v => exact q
  | brk => exact q
  | cont => exact q
theorem pssp_cutF {ι : Type} (G : ι → St → Hp → Prop) (h1 : PSp X st t) (h2 : PSsp X rest u) : PSsp X (st :: rest) (fun D σ H => ∃ i : ι, (∀ σ' H', G i σ' H' → u D σ' H') ∧ t { D with nx := G i } σ H) := by
  intro pins s σ H D I hp ⟨i, ha, hb⟩
  exact pssp_cut (G i) h1 h2 pins s σ H D I hp ⟨ha, hb⟩
theorem pss_pos (h1 : PSb X st t) (h2 : PSsp X rest u) : PSs X (st :: rest) (tSeq t u) := by
  intro pins s σ H D I h
  refine wpAny_execs_cons (thn (h1 pins s σ H { D with nx := u D } I h) fun f s1 ⟨hp1, q⟩ => ?_)
  cases f with
  | next =>
    obtain ⟨σ', H', I', q⟩ := q
    exact h2 pins s1 σ' H' D I' hp1 q
  | ret v => exact q
  | brk => exact q
  | cont => exact q
theorem psp_ret (he : PEp X e te) : PSp X (.Return (some e) pos) (tRet te) := by
  intro pins s σ H D I hp h
  exact wpAny_Return_some (thn (he pins s σ H _ I hp h) fun v s1 ⟨x, H1, I1, r1, q1⟩ => ⟨x, σ, H1, I1, r1, q1⟩)
theorem psp_if {c : Expr} {a b : List Stmt} {tc : TT} (hc : PTp X c tc) (ha : PSsp X a t) (hb : PSsp X b u) : PSp X (.If c a b pos) (tIfS tc t u) := by
  intro pins s σ H D I hp h
  refine wpAny_If (thnp hp (hc pins s σ H _ I hp h) fun d s1 hp1 ⟨H1, I1, q1⟩ => ?_)
  cases d with
  | true => exact ha pins s1 σ H1 D I1 hp1 q1
  | false => exact hb pins s1 σ H1 D I1 hp1 q1
theorem psp_set {i : Nat} {x : Str} {e : Expr} {te : TE} {pos' : Pos} (hN : X.N.Nodup) (hi : X.N[i]? = some x) (hx : Loc X.env.scope x) (he : PEp X e te) (hs : swapsWith e (some (.Name x pos')) pos.line X.env = pure false := by rfl) (hf : X.fn x = true ∨ X.env.scope.names.lookup x = some .local := by first | exact .inl rfl | exact .inr rfl | assumption) :
    PSp X (.Assign [.Name x pos'] e pos) (tAsg te (gName i)) := by
  intro pins s σ H D I hp h
  refine wpAny_Assign_Name (thn (he pins s σ H _ I hp h) fun v s1 ⟨y, H1, I1, r1, q1⟩ => ?_) hs
  exact store_ok I1 hN hi hx r1 (fun s2 I2 => ⟨_, H1, I2, q1⟩) hf
theorem psb_set {i : Nat} {x : Str} {e : Expr} {te : TE} {pos' : Pos} (hN : X.N.Nodup) (hi : X.N[i]? = some x) (hx : Loc X.env.scope x) (he : PEb X e te) (hs : swapsWith e (some (.Name x pos')) pos.line X.env = pure false := by rfl) (hf : X.fn x = true ∨ X.env.scope.names.lookup x = some .local := by first | exact .inl rfl | exact .inr rfl | assumption) :
    PSb X (.Assign [.Name x pos'] e pos) (tAsg te (gName i)) := by
  intro pins s σ H D I h
  refine wpAny_Assign_Name (thn (he pins s σ H _ I h) fun v s1 ⟨hp1, y, H1, I1, r1, q1⟩ => ?_) hs
  exact thnp hp1 (store_ok (Q := fun _ s2 => ∃ σ' H', Inv X pins σ' H' s2 ∧ D.nx σ' H') I1 hN hi hx r1 (fun s2 I2 => ⟨_, H1, I2, q1⟩) hf) fun _ _ hp z => ⟨hp, z⟩
theorem ptp_val {t : TE} (h : PEp X e t) (he : ∀ whole, isTrue e X.env whole = (do let v ← whole; standAt e.pos; holding [v] (truthy v)) := by intro _; rfl) : PTp X e (tB t) := by
  intro pins s σ H Q I hp hw
  refine isTrue_plain (thn (h pins s σ H _ I hp hw) fun v s1 ⟨x, H1, I1, r1, q1⟩ => ?_) (he _)
  obtain ⟨d, rfl, q⟩ := q1
  cases r1
  exact wpAny_truthy_bool ⟨H1, I1, q⟩
theorem ptp_not {a : Expr} {tA : TT} (ha : PTp X a tA) : PTp X (.UnaryOp .Not a pos) (tNot tA) := by
  intro pins s σ H Q I hp h
  exact isTrue_not (ha pins s σ H (fun c H1 => Q (!c) H1) I hp h)
theorem ptp_cmpR {a b : Expr} {ta tb : TE} {op : CmpOp} {r : R2} (ho : OpR X (compareOp op) r) (ha : PEp X a ta) (hb : PE X b tb) (hm : behindInMarks op b = false) : PTp X (.Compare a [op] [b] pos) (tTest (tOp r ta tb)) := by
  intro pins s σ H Q I hp h
  refine wpAny_isTrue_Compare1 (thn (ha pins s σ H _ I hp h) fun v s1 ⟨x, H1, I1, r1, q1⟩ => thn (hb pins s1 σ H1 _ I1 q1) fun u s2 ⟨y, H2, I2, r2, q2⟩ =>
    thn (ho pins s2 σ H2 x y v u _ I2 r1 r2 q2) fun c s3 ⟨z, H3, I3, r3, k, e, q3⟩ => ?_) hm
  subst e
  cases r3
  exact wpAny_truthy_bool ⟨H3, I3, q3⟩
theorem pep_cmpR {a b : Expr} {ta tb : TE} {op : CmpOp} {r : R2} (ho : OpR X (compareOp op) r) (ha : PEp X a ta) (hb : PE X b tb) (hm : behindInMarks op b = false) : PEp X (.Compare a [op] [b] pos) (tOp r ta tb) := by
  intro pins s σ H Q I hp h
  exact wpAny_Compare1 (thn (ha pins s σ H _ I hp h) fun v s1 ⟨x, H1, I1, r1, q1⟩ => thn (hb pins s1 σ H1 _ I1 q1) fun u s2 ⟨y, H2, I2, r2, q2⟩ => ho pins s2 σ H2 x y v u Q I2 r1 r2 q2) hm
theorem pab_int {i : Int} {j : Nat} {p : Pos} {es : List Expr} {t : TA} (hr : PAp X es t) (hs : starEach (.Constant (.int i) j p :: es) X.env = (false, eval (.Constant (.int i) j p) X.env) :: starEach es X.env := by rfl) : PAb X (.Constant (.int i) j p :: es) (tCons (tC (.int i)) t) := by
  intro pos pins s σ H Q I h
  rw [hs]
  show wpAny _ _ (spliced ((false, eval (.Constant (.int i) j p) X.env) :: backTo pos (starEach es X.env))) _ _ s
  refine Calls.spliced_cons (wpAny_Constant_int ?_)
  exact thnp (Nat.succ_pos _) (hr pos pins _ σ H _ (I.tok _) (Nat.succ_pos _) h) fun us s2 hp2 ⟨xs, H2, I2, r2, q2⟩ => ⟨hp2, .int i :: xs, H2, I2, .cons ⟨_, rfl⟩ r2, q2⟩
theorem pab_first {es : List Expr} {t : TA} (ha : PEb X e te) (hr : PAp X es t) (hs : starEach (e :: es) X.env = (false, eval e X.env) :: starEach es X.env := by rfl) : PAb X (e :: es) (tCons te t) := by
  intro pos pins s σ H Q I h
  rw [hs]
  show wpAny _ _ (spliced ((false, eval e X.env) :: backTo pos (starEach es X.env))) _ _ s
  refine Calls.spliced_cons (thn (ha pins s σ H _ I h) fun u s1 ⟨hp1, x, H1, I1, r1, q1⟩ => ?_)
  exact thnp hp1 (hr pos pins s1 σ H1 _ I1 hp1 q1) fun us s2 hp2 ⟨xs, H2, I2, r2, q2⟩ => ⟨hp2, x :: xs, H2, I2, .cons r1 r2, q2⟩
theorem pab_next {es : List Expr} {t : TA} (ha : PE X e te) (hr : PAb X es t) (hs : starEach (e :: es) X.env = (false, eval e X.env) :: starEach es X.env := by rfl) : PAb X (e :: es) (tCons te t) := by
  intro pos pins s σ H Q I h
  rw [hs]
  show wpAny _ _ (spliced ((false, eval e X.env) :: backTo pos (starEach es X.env))) _ _ s
  refine Calls.spliced_cons (thn (ha pins s σ H _ I h) fun u s1 ⟨x, H1, I1, r1, q1⟩ => ?_)
  exact thn (hr pos pins s1 σ H1 _ I1 q1) fun us s2 ⟨hp2, xs, H2, I2, r2, q2⟩ => ⟨hp2, x :: xs, H2, I2, .cons r1 r2, q2⟩
end
structure FnOkP (P : Program) (w : World) (K : PySem.W.Frag) (mg : Str → Option Value) (base : Heap) (CX : CXT) (k : Nat) (f : Addr) (fd : FuncData) (ps : List Str) (sp : Sp) : Prop where
  len : ∀ vs H Q E, sp vs H Q E → vs.length = ps.length
  run : ∀ (A : Around) (outer : List Env) (s : Shared) (H : Hp) (args : Args) (us : List Value) (vs : List V) (Q : VK) (E : XK), Room k A → Env0 P w K mg base A outer s H → 0 < s.toks → BindsTo s fd args (ps.zip us) → Vals vs us → sp vs H Q E →
    codeAny (model P w) A (.call (.ref f) args) (CR CX outer P w H s Q E) s
structure FnP (P : Program) (w : World) (K : PySem.W.Frag) (mg : Str → Option Value) (base : Heap) (x : Str) (ps : List Str) (k : Nat) (sp : Sp) : Prop where
  ex : ∃ f fd, FnOkP P w K mg base (CX1 P w) k f fd ps sp ∧ mg x = some (.ref f) ∧ PySem.W.keepIn K (.ref f) = true ∧ Binds K fd ps []
section
variable {P : Program} {w : World} {K : PySem.W.Frag} {mg : Str → Option Value} {base : Heap}
theorem FnS.p {x : Str} {ps : List Str} {k : Nat} {sp : Sp} (F : FnS P w K mg base x ps k sp) : FnP P w K mg base x ps k sp := by
  obtain ⟨f, fd, F, hm, hk, hb⟩ := F.ex
  exact ⟨f, fd, ⟨F.len, fun A outer s H args us vs Q E hr e0 _ => F.run A outer s H args us vs Q E hr e0⟩, hm, hk, hb⟩
theorem FnOkP.mono {CX : CXT} {j k : Nat} {f : Addr} {fd : FuncData} {ps : List Str} {sp : Sp} (F : FnOkP P w K mg base CX j f fd ps sp) (h : j ≤ k) : FnOkP P w K mg base CX k f fd ps sp :=
  ⟨F.len, fun A outer s H args us vs Q E hr => F.run A outer s H args us vs Q E (hr.mono h)⟩
theorem fn_ofP {CX : CXT} {k : Nat} {f : Addr} {name qual : Str} {params : Arguments} {body : List Stmt} {scope : Scope} {dV kV doc pm cdv ct oc : Value} {an od : Option Addr}
    {osl : Array (Option Value)} {N ps : List Str} {sp : Sp} (lk : K.lookup f = some ⟨oc, od, .func (PySem.W.fnOf name qual params body scope dV kV doc pm an cdv ct), osl⟩) (hcd : PySem.W.codeIn K cdv qual = true) (S : FnScope N ps scope)
    (len : ∀ vs H Q E, sp vs H Q E → vs.length = ps.length)
    (hbody : ∀ (A : Around) (outer : List Env) (s : Shared) (H : Hp) (vs : List V) (Q : VK) (E : XK), Room k (A.deeper (envOfC qual scope s.heap.objs.size f cdv)) → sp vs H Q E →
      ∃ t, PSsp (cxOf CX P w K mg base N qual scope f cdv A outer s H E) body t ∧ t { nx := fun _ H' => Q .non H', rt := Q } (start N vs) H) :
    FnOkP P w K mg base CX (k + 1) f (PySem.W.fnOf name qual params body scope dV kV doc pm an cdv ct) ps sp := by
  refine ⟨len, fun A outer s H args us vs Q E hr e0 hp hb r hsp => ?_⟩
  have hl := len _ _ _ _ hsp
  have KX : K.In s.heap := e0.mod.kin.keeps fun b o e => (e0.bs b o e).1
  have lim : s.heap.NoLimit := e0.mod.nolimit.keeps fun b o e => (e0.bs b o e).1
  have hkind : ∀ y ∈ ps.zip us, scope.names.lookup y.1 = some .local ∨ (scope.names.lookup y.1 = some .cell ∧ ((cellsFrom (s.heap.objs.size + 1) scope.names []).lookup y.1).isSome = true) := fun ⟨n, v⟩ hy => by
    rcases S.par n (List.of_mem_zip hy).1 with q | q
    · exact .inl q
    · exact .inr ⟨q, PySem.W.cellsFrom_some _ _ _ (.inl q)⟩
  refine codeAny_call_function hr.depth (KX _ _ lk) rfl S.co S.gen rfl (PySem.W.codeRec_of KX hcd) (hb _ _ _ _ ?_)
  refine wpAny_with_toks (n := 1) hp (wpAny_newFunctionEnv_cells S.kind hkind fun env he s1 x hp1 => ?_)
  subst he
  refine ⟨lim.keeps x.toInCall.keep, codeAny_func ?_⟩
  obtain ⟨t, ht, hq⟩ := hbody A outer s H vs Q E (hr.deeper _) hsp
  have I : Inv (cxOf CX P w K mg base N qual scope f cdv A outer s H E) [] (start N vs) H s1 := inv_start S hr.hd e0 hl r x
  refine wpAny_mono (ht [] s1 (start N vs) H _ I hp1 hq) (fun fl s' hs => ?_) fun e s' hs => hs
  have fin : ∀ {σ' : St} {H' : Hp} {v : V} {u : Value}, Inv (cxOf CX P w K mg base N qual scope f cdv A outer s H E) [] σ' H' s' → RelV v u → Q v H' → CE outer P w H s Q u s' :=
    fun {σ' H' v u} J rv q => ⟨v, H', J.os, J.bare, J.base, J.hok, rv, q⟩
  cases fl with
  | ret u =>
    obtain ⟨v, σ', H', J, rv, q⟩ := hs
    exact fin J rv q
  | next =>
    obtain ⟨σ', H', J, q⟩ := hs
    exact fin (v := V.non) (u := Value.none) J rfl q
  | brk =>
    obtain ⟨_, _, _, q⟩ := hs
    exact False.elim q
  | cont =>
    obtain ⟨_, _, _, q⟩ := hs
    exact False.elim q
theorem Def.okP {x : Str} {st : Stmt} {N ps : List Str} {k : Nat} {sp : Sp} (D : Def K mg x st) (S : FnScope N ps (defScope st)) (B : BindsAll x st ps) (len : ∀ vs H Q E, sp vs H Q E → vs.length = ps.length)
    (hbody : ∀ (f : Addr) (cdv : Value) (A : Around) (outer : List Env) (s : Shared) (H : Hp) (vs : List V) (Q : VK) (E : XK), Room k (A.deeper (envOfC x (defScope st) s.heap.objs.size f cdv)) → sp vs H Q E →
      ∃ t, PSsp (cxOf (CX1 P w) P w K mg base N x (defScope st) f cdv A outer s H E) (defBody st) t ∧ t { nx := fun _ H' => Q .non H', rt := Q } (start N vs) H) : FnP P w K mg base x ps (k + 1) sp := by
  obtain ⟨f, fd, F, hm⟩ := D.ex
  refine ⟨f, fd, ?_, hm, F.kp, F.binds B⟩
  obtain ⟨oc, od, kV, doc, pm, an, cdv, ct, osl, rfl, lk, hcd⟩ := F.ex
  exact fn_ofP lk hcd S len fun A outer s H vs Q E hr hsp => hbody f cdv A outer s H vs Q E hr hsp
end
section
variable {X : Cx} {CX : CXT} {k : Nat} {f C : Addr} {fd : FuncData} {ps : List Str} {sp : Sp} {dvs : List V} {ds : List Value} {E : XK} {x m : Str} {p pos apos : Pos} {e o : Expr} {es : List Expr} {ta : TE} {t : TA}
theorem run_fnP {pins : List (Addr × Obj)} {σ : St} {H : Hp} {s : Shared} {Q : VK} {us : List Value} {vs : List V} (F : FnOkP X.prog X.w X.K X.mg X.base CX k f fd ps sp) (hr : Room k X.A) (hb : Binds X.K fd ps ds) (hd : Vals dvs ds) (hx : Passes CX X E)
    (I : Inv X pins σ H s) (hp : 0 < s.toks) (r : Vals vs us) (h : sp (vs ++ dvs) H Q E) : wpAny (model X.prog X.w) X.A (call (.ref f) us) (EP X pins σ Q) X.xe s := by
  have r2 : Vals (vs ++ dvs) (us ++ ds) := r.append hd
  have hl : (us ++ ds).length = ps.length := by rw [← r2.length]; exact F.len _ _ _ _ h
  refine wpAny_call (codeAny_mono (F.run X.A X.stack s H ⟨us, []⟩ (us ++ ds) (vs ++ dvs) Q E hr I.env0 hp (hb s us I.kIn hl) r2 h) fun r s' hq => ?_)
  cases r with
  | error e => exact hx pins σ H s e s' I hq
  | ok fl =>
    cases fl with
    | ret u => exact I.after hq
    | next => exact False.elim hq
    | brk => exact False.elim hq
    | cont => exact False.elim hq
theorem pep_fn {k k' : Nat} (F : FnP X.prog X.w X.K X.mg X.base x ps k' sp) (hr : Room k X.A) (hx : Passes (CX1 X.prog X.w) X E) (ha : PAp X (e :: es) t) (hkk : k' ≤ k := by decide) (hg : Gl X x := by rfl)
    (hdb : (x == ("__debug__" : Str)) = false := by decide) (he : starEach (e :: es) X.env = (false, eval e X.env) :: starEach es X.env := by rfl) (hpl : (backTo pos (starEach es X.env)).any (·.1) = false := by rfl) :
    PEp X (.Call (.Name x p) (e :: es) [] pos) (tCall sp [] E t) := by
  obtain ⟨f, fd, F, hm, hk, hb⟩ := F.ex
  intro pins s σ H Q I hp h
  refine wpAny_Call_Name_kw (ld_glob I hg hm ?_ hdb)
  refine PySem.W.callWith_K (h₀ := X.base) I.ok.mod.kin hk (thnp hp (ha pos pins s σ H _ I hp h) fun us s1 hp1 ⟨vs, H1, I1, r, q⟩ => ⟨I1.kIn, ?_⟩) he hpl
  exact run_fnP (F.mono hkk) hr hb .nil hx I1 hp1 r q
theorem peb_fn {k k' : Nat} (F : FnS X.prog X.w X.K X.mg X.base x ps k' sp) (hr : Room k X.A) (hx : Passes (CX1 X.prog X.w) X E) (ha : PAb X (e :: es) t) (hkk : k' ≤ k := by decide) (hg : Gl X x := by rfl)
    (hdb : (x == ("__debug__" : Str)) = false := by decide) (he : starEach (e :: es) X.env = (false, eval e X.env) :: starEach es X.env := by rfl) (hpl : (backTo pos (starEach es X.env)).any (·.1) = false := by rfl) :
    PEb X (.Call (.Name x p) (e :: es) [] pos) (tCall sp [] E t) := by
  obtain ⟨f, fd, F, hm, hk, hb⟩ := F.ex
  intro pins s σ H Q I h
  refine wpAny_Call_Name_kw (ld_glob I hg hm ?_ hdb)
  refine PySem.W.callWith_K (h₀ := X.base) I.ok.mod.kin hk (thn (ha pos pins s σ H _ I h) fun us s1 ⟨hp1, vs, H1, I1, r, q⟩ => ⟨I1.kIn, ?_⟩) he hpl
  exact thnp hp1 (run_fn (F.mono hkk) hr hb .nil hx I1 r q) fun _ _ hp z => ⟨hp, z⟩
end
section
variable {X : Cx} {tg : Expr}
theorem psp_for {iter : Expr} {body : List Stmt} {wi : TI} {g : TG} {tb : TS} {pos : Pos} (hp : PassesOwn (model X.prog X.w) X.A X.env X.xe) (hc : X.calm = true) (hi : PI X tg iter wi) (hg : PG X tg g) (hb : PSsp X body tb)
    (hs : ∀ x, foldedSetIterable iter X.env x = pure x := by intro _; rfl) : PSp X (.For tg iter body [] pos) (tFor wi g tb) := by
  intro pins s σ H D I h0 h
  refine wpAny_For (thnp h0 (hi pins s σ H _ I h) fun v s1 hp1 h1 => thnp hp1 h1 fun itv s2 hp2 h2 => ?_) hs
  obtain ⟨it, fp, tn, J, H2, e, I2, T, st2, f2, W, ⟨m0, w0⟩, turn⟩ := h2
  subst e
  have stat : ∀ {H' : Hp}, (∀ b ∈ fp, H' b = none) → ∀ b ∈ fp, FpOk X pins H' b := fun hn b hb => ⟨hn b hb, (f2 b hb).2⟩
  refine codeAny_forLoop_any (fun n s' => 0 < s'.toks ∧ ∃ i σ' H', Inv X pins σ' H' s' ∧ tn i s'.heap ∧ (∀ b ∈ fp, H' b = none) ∧ W i n σ' H') ?_ m0 ⟨hp2, 0, σ, H2, I2, st2, fun b hb => (f2 b hb).1, w0⟩
  rintro n s3 ⟨hp3, i, σ3, H3, I3, st3, fr3, w3⟩
  rcases turn i n σ3 H3 w3 with ⟨stop, qn⟩ | ⟨go, N, hN, step⟩
  · refine wpAny_passesOwn hp (thn (T.done X rfl rfl rfl hc i pins s3 σ3 H3 X.xe I3 (stat fr3) st3 stop) fun r s4 ⟨hr, I4⟩ => ?_)
    subst hr
    exact wpAny_execs_nil ⟨σ3, H3, I4, qn⟩
  · refine wpAny_passesOwn hp (thnp hp3 (T.item X rfl rfl rfl hc i pins s3 σ3 H3 X.xe I3 (stat fr3) st3 go) fun r s4 hp4 ⟨u, hr, h4⟩ => ?_)
    subst hr
    refine wpAny_passesOwn hp (thnp hp4 h4 fun _ s5 hp5 ⟨x, H5, I5, r5, y5, st5, fr5⟩ => ?_)
    have I5' := I5.pinned (stat fr5) (T.obj _ _ st5)
    refine wpAny_passesOwn hp (thnp hp5 (hg _ s5 σ3 H5 x u _ I5' r5 (step x H5 y5)) fun _ s6 hp6 ⟨σ6, H6, I6, q6⟩ => ?_)
    refine wpAny_passesOwn hp (thnp hp6 (hb _ s6 σ6 H6 _ I6 hp6 q6) fun f s7 hp7 q7 => ?_)
    have again : ∀ {σ7 : St} {H7 : Hp}, Inv X (pins ++ pinsAt fp s5.heap) σ7 H7 s7 → N σ7 H7 → ∃ m, m < n ∧ 0 < s7.toks ∧ ∃ i σ' H', Inv X pins σ' H' s7 ∧ tn i s7.heap ∧ (∀ b ∈ fp, H' b = none) ∧ W i m σ' H' := fun {σ7 H7} I7 n7 => by
      obtain ⟨m', hm, w7⟩ := hN σ7 H7 n7
      refine ⟨m', hm, hp7, i + 1, σ7, H7, I7.unpinned, T.keep _ _ _ st5 fun b hb o e => (I7.pin (b, o) (List.mem_append_right _ (List.mem_append_right _ (mem_pinsAt hb e)))).1, fun b hb => ?_, w7⟩
      obtain ⟨o, e, d⟩ := T.obj _ _ st5 b hb
      exact (I7.pin (b, o) (List.mem_append_right _ (List.mem_append_right _ (mem_pinsAt hb e)))).2.1
    cases f with
    | next => obtain ⟨σ7, H7, I7, n7⟩ := q7; exact again I7 n7
    | cont => obtain ⟨σ7, H7, I7, n7⟩ := q7; exact again I7 n7
    | brk => obtain ⟨σ7, H7, I7, q7⟩ := q7; exact ⟨σ7, H7, I7.unpinned, q7⟩
    | ret v => obtain ⟨x7, σ7, H7, I7, r7, q7⟩ := q7; exact ⟨x7, σ7, H7, I7.unpinned, r7, q7⟩
theorem psxsp_one {st : Stmt} {t : TSx} (h1 : PSxp X st t) : PSxsp X [st] t := by
  intro pins s σ H D E I hp h
  refine wpAny_execs_cons (wpAny_mono (h1 pins s σ H D E I hp h) (fun f s1 q => ?_) fun _ _ z => z)
  cases f with
  | next => exact wpAny_execs_nil q
  | ret v => exact q
  | brk => exact q
  | cont => exact q
theorem psxp_expr {e : Expr} {te : TEx} {pos : Pos} (he : PExp X e te) (hs : swapsWith e none pos.line X.env = pure false := by rfl) : PSxp X (.Expr e pos) (xDrop te) := by
  intro pins s σ H D E I hp h
  exact wpAny_Expr_any (wpAny_mono (he pins s σ H _ E I hp h) (fun v s1 ⟨x, H1, I1, r1, q1⟩ => ⟨σ, H1, I1, q1⟩) fun _ _ z => z) I.quiet hs
theorem psxp_if {c : Expr} {a b : List Stmt} {tc : TT} {t u : TSx} {pos : Pos} (hc : PT X.nox c tc) (ha : PSxsp X a t) (hb : PSxsp X b u) : PSxp X (.If c a b pos) (xIf tc t u) := by
  intro pins s σ H D E I hp h
  refine wpAny_If (thnpE hp (hc pins s σ H _ (I.wish _) h) (fun d s1 hp1 q => ?_) fun _ _ _ z => z.elim)
  obtain ⟨H1, I1, q1⟩ := q
  cases d with
  | true => exact ha pins s1 σ H1 D E I1.unwish hp1 q1
  | false => exact hb pins s1 σ H1 D E I1.unwish hp1 q1
theorem psp_try {body : List Stmt} {h₀ : ExceptHandler} {hs : List ExceptHandler} {tb : TSx} {th : TH} {pos : Pos} (O : Own X) (hb : PSxsp X body tb) (hh : PH X (h₀ :: hs) th) : PSp X (.Try body (h₀ :: hs) [] [] pos) (tTry tb th) := by
  intro pins s σ H D I hp h
  refine wpAny_Try_except (wpAny_mono (hb pins s σ H D _ I hp h) (fun f s1 q => ?_) fun e s1 q => ?_)
  · cases f with
    | next => exact wpAny_execs_nil q
    | ret v => exact q
    | brk => exact q
    | cont => exact q
  · obtain ⟨σ', ea, C, d, H', rfl, I', f, q⟩ := q
    exact look_fly O I' f fun h' I'' f'' => hh pins _ σ' H' D ea C d I'' f'' q
theorem pexp_fn {x : Str} {ps : List Str} {k k' : Nat} {sp : Sp} {p pos : Pos} {e : Expr} {es : List Expr} {t : TA} (O : Own X) (F : FnP X.prog X.w X.K X.mg X.base x ps k' sp) (hr : Room k X.A) (ha : PA X.nox (e :: es) t) (hkk : k' ≤ k := by decide) (hg : Gl X x := by rfl)
    (hdb : (x == ("__debug__" : Str)) = false := by decide) (he : starEach (e :: es) X.env = (false, eval e X.env) :: starEach es X.env := by rfl) (hpl : (backTo pos (starEach es X.env)).any (·.1) = false := by rfl) :
    PExp X (.Call (.Name x p) (e :: es) [] pos) (fun σ H Q E => t σ H fun vs H1 => sp (vs ++ []) H1 Q E) := by
  obtain ⟨f, fd, F, hm, hk, hb⟩ := F.ex
  have F := F.mono hkk
  intro pins s σ H Q E I hp h
  refine wpAny_Call_Name_kw (ld_glob I hg hm ?_ hdb)
  refine PySem.W.callWith_K (h₀ := X.base) I.ok.mod.kin hk (thnpE hp (ha pos pins s σ H _ (I.wish _) h) (fun us s1 hp1 q => ?_) fun _ _ _ z => z.elim) he hpl
  obtain ⟨vs, H1, I1, r, q⟩ := q
  have I1 := I1.unwish
  have r2 : Vals (vs ++ []) (us ++ []) := r.append .nil
  have hl : (us ++ []).length = ps.length := by rw [← r2.length]; exact F.len _ _ _ _ q
  refine ⟨I1.kIn, wpAny_call (codeAny_mono (F.run X.A X.stack s1 H1 ⟨us, []⟩ (us ++ []) (vs ++ []) Q _ hr I1.env0 hp1 (hb s1 us I1.kIn hl) r2 q) fun r s' hq => ?_)⟩
  cases r with
  | error e =>
    have hq' : CX1 X.prog X.w X.stack H1 s1 (fun C d H' => E σ C d H') e s' := hq
    obtain ⟨ea, C, d, H', e1, I', f', q'⟩ := fly_of O I1 hq'
    exact ⟨σ, ea, C, d, H', e1, I', f', q'⟩
  | ok fl =>
    cases fl with
    | ret u => exact I1.after hq
    | next => exact False.elim hq
    | brk => exact False.elim hq
    | cont => exact False.elim hq
inductive isRepA (y z : Str) (Q : VK) (x : V) (H : Hp) : Prop
  | mk (v : Str) (h0 : x = .str v) (hyz : (y == z) = false) (hv : v.length ≤ 1000000) (hz : z.length ≤ 4) (q : Q (.str (Txt.replace v y z)) H) : isRepA y z Q x H
noncomputable def tRepA (y z : Str) (to : TE) : TE := fun σ H Q => to σ H (isRepA y z Q)
theorem pep_repl {o : Expr} {to : TE} {y z : Str} {j1 j2 : Nat} {p1 p2 apos cpos : Pos} (ho : PEp X o to)
    (hbase : attributeBase o "replace" X.env (eval o X.env) = eval o X.env := by rfl) (hline : (apos.endLine == cpos.line) = true := by rfl) :
    PEp X (.Call (.Attribute o "replace" apos) [.Constant (.str y) j1 p1, .Constant (.str z) j2 p2] [] cpos) (tRepA y z to) := by
  intro pins s σ H Q I hp h
  refine wpAny_Call_method_late hbase rfl hline rfl (thnp hp (ho pins s σ H _ I hp h) fun v s1 hp1 ⟨x, H1, I1, r1, q1⟩ => ?_)
  obtain ⟨w, rfl, hyz, hv, hz, q⟩ := q1
  obtain ⟨t, rfl⟩ := (show ∃ t, v = Value.str w t from r1)
  obtain ⟨h1, h2⟩ := tyV_is I1 r1 (show tyV X.K "str" (.str w) H1 from rfl)
  refine ⟨"str", "str.replace", PySem.F.plainAttrs_str, PySem.F.slot_str_replace, PySem.F.type_str_replace, h1, h2, ?_⟩
  refine Calls.callWith_builtin rfl (Calls.evalArgs_plain ?_)
  show wpAny _ _ (spliced ((false, eval (.Constant (.str y) j1 p1) X.env) :: (false, eval (.Constant (.str z) j2 p2) X.env) :: [])) _ _ _
  refine Calls.spliced_cons (Calls.Constant_str (Calls.spliced_cons (Calls.Constant_str (Calls.spliced_nil ?_))))
  exact SC.replace (Nat.pos_iff_ne_zero.mp hp1) (Nat.succ_ne_zero _) (Nat.ne_of_lt (Nat.lt_succ_self _)) hyz (by
    have : (w.length + 1) * z.length ≤ (1000000 + 1) * 4 := Nat.mul_le_mul (by omega) hz
    omega) fun t' k => ⟨.str _, H1, I1.tok _, ⟨_, rfl⟩, q⟩
theorem pep_bm {T id : String} {r : V → List V → Hp → VK → Prop} {o e : Expr} {es : List Expr} {to : TE} {t : TA} {name : Str} {apos cpos : Pos} (pa : PlainAttrs T) (slot : Slot T name id) (hty : typeOf (.builtin id) = pure (.type "method_descriptor")) (hm : MtR X id r) (ho : PEp X o to) (ha : PA X (e :: es) t)
    (hbase : attributeBase o name X.env (eval o X.env) = eval o X.env := by rfl)
    (hfew : ((backTo cpos (starEach (e :: es) X.env)).all (fun x => !x.1) && (backToKw cpos (keywordEach [] X.env)).all (fun x => x.1.isSome)
      && decide ((e :: es).length + ([] : List Keyword).length + (if ([] : List Keyword).isEmpty then 0 else 1) < 30)) = true := by rfl)
    (hline : (apos.endLine == cpos.line) = true := by rfl) (hs : starEach (e :: es) X.env = (false, eval e X.env) :: starEach es X.env := by rfl) (hplain : (backTo cpos (starEach es X.env)).any (·.1) = false := by rfl) :
    PEp X (.Call (.Attribute o name apos) (e :: es) [] cpos) (tBM X.K T r to t) := by
  intro pins s σ H Q I hp h
  refine wpAny_Call_method_late hbase hfew hline rfl (thn (ho pins s σ H _ I hp h) fun v s1 ⟨x, H1, I1, r1, ty, q1⟩ => ?_)
  obtain ⟨h1, h2⟩ := tyV_is I1 r1 ty
  refine ⟨T, id, pa, slot, hty, h1, h2, ?_⟩
  have hA := ha cpos pins s1 σ H1 _ I1 q1
  rw [hs] at hA ⊢
  refine Calls.callWith_builtin (by show (false || (backTo cpos (starEach es X.env)).any (·.1)) = false; rw [hplain] <;> rfl) (Calls.evalArgs_plain ?_)
  exact thn hA fun us s2 ⟨vs, H2, I2, r2, q2⟩ => hm pins s2 σ H2 x vs v us Q I2 r1 r2 q2
end
end L2
set_option Elab.async false
set_option linter.all false
set_option maxRecDepth 100000
set_option maxHeartbeats 4000000
namespace K21
open PySem L2 RF
seal L2.PE L2.PA L2.PS L2.PSs L2.PT L2.PG L2.PI L2.PO L2.PEx L2.PSx L2.PSxs L2.PH L2.PW L2.PGs L2.PSet L2.OpR L2.CallR L2.SlR L2.IxR
noncomputable def top (i : Nat) : Stmt := PySem.Challenge.pw_restfigures_k21_figure_texts.main.body.getD i (.Pass ⟨0, 0, 0, 0⟩)
structure Txt (K : PySem.W.Frag) (mg : Str → Option Value) (cR cA cT cB cW cD cP cU cI cG cX : Addr) : Prop where
  len : mg "len" = none
  isinstance : mg "isinstance" = none
  sorted : mg "sorted" = none
  list : mg "list" = none
  tuple : mg "tuple" = none
  int : mg "int" = none
  bool : mg "bool" = none
  str : mg "str" = none
  reversed : mg "reversed" = none
  zip : mg "zip" = none
  all : mg "all" = none
  range : mg "range" = none
  ValueError : mg "ValueError" = none
  RestError : mg "RestError" = some (.ref cR)
  BadBase : mg "BadBase" = some (.ref cA)
  TooGreat : mg "TooGreat" = some (.ref cT)
  BadFigure : mg "BadFigure" = some (.ref cB)
  x_BadFigure : PySem.W.excIn K cB bmV "ValueError.__new__" = true
  Wrong : mg "Wrong" = some (.ref cW)
  BadDivisor : mg "BadDivisor" = some (.ref cD)
  BadPlace : mg "BadPlace" = some (.ref cP)
  Unlike : mg "Unlike" = some (.ref cU)
  BadInput : mg "BadInput" = some (.ref cI)
  RowTooGreat : mg "RowTooGreat" = some (.ref cG)
  BadText : mg "BadText" = some (.ref cX)
  MOST_FIGURES : ∃ t, mg "MOST_FIGURES" = some (.int 60 t)
  FIGURES : ∃ t, mg "FIGURES" = some (.str "0123456789" t)
section
variable {P : Program} {w : World} {K : PySem.W.Frag} {mg : Str → Option Value} {base : Heap} {cR cA cT cB cW cD cP cU cI cG cX : Addr}
noncomputable abbrev s__law_mixed : Stmt := top 26
theorem sc__law_mixed : FnScope ["_law_number", "_law_k", "_law_once"] ["_law_number", "_law_k"] (defScope s__law_mixed) := ⟨rfl, rfl, rfl, by decide +kernel, rfl, by decide +kernel, by decide +kernel⟩
theorem b__law_mixed : BindsAll "_law_mixed" s__law_mixed ["_law_number", "_law_k"] := binds2 fun _ _ _ _ _ _ _ _ => rfl
theorem ok_mixed (D : Def K mg "_law_mixed" s__law_mixed) : FnS P w K mg base "_law_mixed" ["_law_number", "_law_k"] 1 sp_mixed := by
  refine D.ok sc__law_mixed b__law_mixed sp2_len fun f cdv A outer s H vs Q E hr h => ?_
  obtain ⟨_, _, rfl, n, j, rfl, rfl, h0, h1, k⟩ := h
  refine ⟨_, (pss_cons (ps_set (i := 2) sc__law_mixed.nd rfl (Or.inl rfl) (pe_op op_mod (pe_op op_mul (pe_op op_add (pe_op op_add (pe_op op_mod (pv 0) pe_int) (pe_op op_mul pe_int (pv 1))) pe_int) pe_int) pe_int))
      (pss_one (ps_ret (pe_op op_mod (pe_op op_mul (pv 2) (pe_op op_add (pe_op op_add (pe_op op_mod (pv 2) pe_int) (pv 1)) pe_int)) pe_int)))), ?_⟩
  try (set_option simprocs false in dsimp only [cxOf])
  refine ⟨_, rfl, _, _, rfl, rfl, (by show (0 : Int) < 1000000007; decide), _, rfl, _, _, rfl, rfl, .inl ⟨by decide, by decide⟩, _, _, rfl, rfl, _, _, rfl, rfl, _, _, rfl, rfl, .inr ⟨by decide, by decide⟩, _, _, rfl, rfl, (by show (0 : Int) < 2147483647; decide), ?_⟩
  refine ⟨_, rfl, _, rfl, _, _, rfl, rfl, (by show (0 : Int) < 1009; decide), _, rfl, _, _, rfl, rfl, _, _, rfl, rfl, _, _, rfl, rfl, .inl ⟨by show -(2 ^ 64) < (n % 1000000007 + 7 * j + 1) * 48271 % 2147483647; omega, by show (n % 1000000007 + 7 * j + 1) * 48271 % 2147483647 < 2 ^ 64; omega⟩, _, _, rfl, rfl, (by show (0 : Int) < 998244353; decide), ?_⟩
  exact k _ (Int.emod_nonneg _ (by decide)) (Int.emod_lt_of_pos _ (by decide))
noncomputable abbrev s_divisors_of : Stmt := top 13
theorem sc_divisors_of : FnScope ["base"] ["base"] (defScope s_divisors_of) := ⟨rfl, rfl, rfl, by decide +kernel, rfl, by decide +kernel, by decide +kernel⟩
theorem b_divisors_of : BindsAll "divisors_of" s_divisors_of ["base"] := binds1 fun _ _ _ _ _ _ _ => rfl
theorem ok_divisors_of (D : Def K mg "divisors_of" s_divisors_of) : FnS P w K mg base "divisors_of" ["base"] 1 sp_divs := by
  refine D.ok sc_divisors_of b_divisors_of sp1_len fun f cdv A outer s H vs Q E hr h => ?_
  obtain ⟨_, rfl, kept, spare, ⟨⟨t, rfl, B⟩, gb⟩, k⟩ := h
  refine ⟨_, (pss_one (ps_ret (pe_op op0catT (pe_ix ix0T (pv 0) pe_int (fun _ _ => rfl)) (pe_ix ix0T (pv 0) pe_int (fun _ _ => rfl))))), ?_⟩
  try (set_option simprocs false in dsimp only [cxOf])
  obtain ⟨t1, t2, e0, e1, e2⟩ := B.ex
  refine ⟨_, rfl, t, _, _, _, rfl, rfl, SqT.of e0, rfl, _, rfl, t, _, _, _, rfl, rfl, SqT.of e0, rfl, t1, t2, _, _, rfl, rfl, SqT.of e1, SqT.of e2, gb.ne, gb.room, fun hs => ?_, fun _ p hp => ?_⟩
  · have hs : spare = [] := List.map_eq_nil_iff.mp hs
    subst hs
    exact k t1 H (Same.refl H) (by rw [List.append_nil]; exact e1)
  · exact k p _ (Same.new hp) (by rw [List.map_append]; exact upd_same)
noncomputable abbrev s_refuse_no_figure : Stmt := top 15
theorem sc_refuse_no_figure : FnScope ["base", "figure", "divisors", "rest", "divisor"] ["base", "figure"] (defScope s_refuse_no_figure) := ⟨rfl, rfl, rfl, by decide +kernel, rfl, by decide +kernel, by decide +kernel⟩
theorem b_refuse_no_figure : BindsAll "refuse_no_figure" s_refuse_no_figure ["base", "figure"] := binds2 fun _ _ _ _ _ _ _ _ => rfl
theorem ok_refuse (D : Def K mg "refuse_no_figure" s_refuse_no_figure) (T : Txt K mg cR cA cT cB cW cD cP cU cI cG cX) (F_divisors_of : FnS P w K mg base "divisors_of" ["base"] 1 sp_divs) : FnS P w K mg base "refuse_no_figure" ["base", "figure"] 2 (sp_refuse cB) := by
  refine D.ok sc_refuse_no_figure b_refuse_no_figure sp2_len fun f cdv A outer s H vs Q E hr h => ?_
  obtain ⟨_, _, rfl, kept, spare, l, ns, B, rfl, el, yes, no⟩ := h
  refine ⟨_, (pss_cons (ps_set (i := 2) sc_refuse_no_figure.nd rfl (Or.inl rfl) (cFn F_divisors_of hr passes0 (ac (pv 0) pa_nil)))
      (pss_cons (ps_if (pt_cmpR op_ne (cBi call0len (by rfl) T.len PyProof.Rows.Boot.«len» (ac (pv 1) pa_nil)) (cBi call0len (by rfl) T.len PyProof.Rows.Boot.«len» (ac (pv 2) pa_nil)) (nomark _))
        (pss_one (ps_raise T.x_BadFigure T.BadFigure (ac pe_str pa_nil)))
        pss_nil)
      (pss_one (ps_for own_pass rfl (pi_zip .L .T rfl T.zip (ac (pv 1) (ac (pv 2) pa_nil))) (pg_tup (n := 2) rfl (pgs_cons (pg_name (i := 3) sc_refuse_no_figure.nd rfl (Or.inl rfl)) (pgs_cons (pg_name (i := 4) sc_refuse_no_figure.nd rfl (Or.inl rfl)) pgs_nil)))
        (pss_one (ps_if (pt_not (pt_chain op_le op_lt pe_int (pv 3) (pv 4)))
          (pss_one (ps_raise T.x_BadFigure T.BadFigure (ac pe_str pa_nil)))
          pss_nil)))))), ?_⟩
  try (set_option simprocs false in dsimp only [cxOf])
  refine ⟨_, rfl, _, rfl, kept, spare, B, fun p H1 S1 ep => ?_⟩
  obtain ⟨⟨t, rfl, hb⟩, gb⟩ := id B
  have el1 := S1 _ _ el
  refine ⟨_, rfl, l, _, rfl, .inl (SqL.of el1), _, rfl, p, _, rfl, .inr (SqT.of ep), rfl, _, rfl, ?_⟩
  rw [List.length_map, List.length_map]
  by_cases hl : ns.length = (kept ++ spare).length
  case neg =>
    have hb : (!decide (V.int (ns.length : Int) = V.int ((kept ++ spare).length : Int))) = true := by
      simp only [V.int.injEq, Bool.not_eq_true', decide_eq_false_iff_not]
      omega
    rw [hb]
    exact iteT ⟨by decide, no (fun v => hl v.len) H1 S1⟩
  refine iteNS (by rw [hl]) ?_
  refine ⟨_, rfl, _, rfl, l, p, rfl, ⟨_, SqL.of el1⟩, ⟨_, SqT.of ep⟩, for_zip (K := K) (k1 := .L) (k2 := .T) (xs := ns.map V.int) (ys := (kept ++ spare).map V.int)
    (fun i σ H' => ∃ y3 y4, σ = [some (.ref t), some (.ref l), some (.ref p), y3, y4] ∧ Same H1 H' ∧ ∀ (j : Nat) (d r : Int), j < i → (kept ++ spare)[j]? = some d → ns[j]? = some r → 0 ≤ r ∧ r < d)
    ⟨none, none, rfl, Same.refl H1, fun j _ _ h => absurd h (Nat.not_lt_zero j)⟩ (fun i σ H' ⟨_, _, _, S, _⟩ => ⟨SqL.of (S _ _ el1), SqT.of (S _ _ ep)⟩) ?_ ?_⟩
  · rintro i x y a σ H' hx hy ⟨y3, y4, rfl, S, U⟩ ha
    obtain ⟨r, hr', rfl⟩ := ints_at hx
    obtain ⟨d, hd, rfl⟩ := ints_at hy
    have S' := S1.trans (S.trans (Same.new (o := .tup [.int r, .int d]) ha))
    refine ⟨a, _, rfl, SqT.of upd_same, rfl, _, _, rfl, _, _, rfl, rfl, ?_⟩
    refine ⟨_, rfl, _, _, rfl, rfl, _, rfl, ?_⟩
    by_cases h0 : 0 ≤ r
    case neg =>
      rw [decide_eq_false h0]
      exact iteF ⟨_, rfl, iteT ⟨by decide, no (fun v => h0 (v.rng i d r hd hr').1) _ S'⟩⟩
    rw [decide_eq_true h0]
    refine iteT ⟨_, rfl, _, _, rfl, rfl, _, rfl, ?_⟩
    by_cases h1 : r < d
    case neg =>
      rw [decide_eq_false h1]
      exact iteT ⟨by decide, no (fun v => h1 (v.rng i d r hd hr').2) _ S'⟩
    rw [decide_eq_true h1]
    refine iteF ⟨_, _, rfl, S.trans (Same.new ha), fun j d' r' hj hd' hr2 => ?_⟩
    rcases Nat.lt_or_ge j i with h | h
    · exact U j d' r' h hd' hr2
    · have e : j = i := by omega
      subst e
      rw [hd] at hd'; cases hd'
      rw [hr'] at hr2; cases hr2
      exact ⟨h0, h1⟩
  · rintro σ H' ⟨y3, y4, rfl, S, U⟩
    rw [List.length_map, List.length_map, hl, Nat.min_self] at U
    exact yes ⟨hl, fun j d r hd hr' => U j d r (List.getElem?_eq_some_iff.mp hd).1 hd hr'⟩ H' (S1.trans S)
noncomputable abbrev s__law_cell_at : Stmt := top 25
theorem sc__law_cell_at : FnScope ["_law_script", "_law_k"] ["_law_script", "_law_k"] (defScope s__law_cell_at) := ⟨rfl, rfl, rfl, by decide +kernel, rfl, by decide +kernel, by decide +kernel⟩
theorem b__law_cell_at : BindsAll "_law_cell_at" s__law_cell_at ["_law_script", "_law_k"] := binds2 fun _ _ _ _ _ _ _ _ => rfl
theorem ok_cell_at (D : Def K mg "_law_cell_at" s__law_cell_at) (T : Txt K mg cR cA cT cB cW cD cP cU cI cG cX) : FnS P w K mg base "_law_cell_at" ["_law_script", "_law_k"] 1 (sp_cell_at K) := by
  refine D.ok sc__law_cell_at b__law_cell_at sp2_len fun f cdv A outer s H vs Q E hr h => ?_
  obtain ⟨_, _, rfl, l, ns, i, rfl, rfl, hq, h0, k⟩ := h
  refine ⟨_, (pss_cons (ps_if (pt_cmpR op_lt (pv 1) (cBi call_len_seq (by rfl) T.len PyProof.Rows.Boot.«len» (ac (pv 0) pa_nil)) (nomark _))
        (pss_one (ps_ret (pe_ix ix_list (pv 0) (pv 1) (fun _ _ => rfl))))
        pss_nil)
      (pss_one (ps_ret pe_int))), ?_⟩
  try (set_option simprocs false in dsimp only [cxOf])
  refine ⟨_, rfl, _, rfl, l, _, rfl, .inl hq, _, _, rfl, rfl, _, rfl, ?_⟩
  rw [List.length_map]
  by_cases hl : i < (ns.length : Int)
  · rw [decide_eq_true hl]
    exact iteT ⟨_, rfl, _, rfl, l, _, _, _, rfl, rfl, hq, atI_ints h0 hl, k _⟩
  · rw [decide_eq_false hl]
    exact iteF (k 0)
noncomputable abbrev s__law_whole : Stmt := top 31
theorem sc__law_whole : FnScope ["_law_found"] ["_law_found"] (defScope s__law_whole) := ⟨rfl, rfl, rfl, by decide +kernel, rfl, by decide +kernel, by decide +kernel⟩
theorem b__law_whole : BindsAll "_law_whole" s__law_whole ["_law_found"] := binds1 fun _ _ _ _ _ _ _ => rfl
theorem ok_whole (D : Def K mg "_law_whole" s__law_whole) (T : Txt K mg cR cA cT cB cW cD cP cU cI cG cX) : FnS P w K mg base "_law_whole" ["_law_found"] 1 sp_whole := by
  refine D.ok sc__law_whole b__law_whole sp1_len fun f cdv A outer s H vs Q E hr h => ?_
  obtain ⟨_, rfl, n, rfl, k⟩ := h
  refine ⟨_, (pss_one (ps_ret (pe_and (cBi call_isi (by rfl) T.isinstance PyProof.Rows.Boot.«isinstance» (ac (pv 0) (ac (pe_ty rfl T.int PyProof.Rows.Boot.«int») pa_nil))) (pe_one (pe_not (cBi call_isi (by rfl) T.isinstance PyProof.Rows.Boot.«isinstance» (ac (pv 0) (ac (pe_ty rfl T.bool PyProof.Rows.Boot.«bool») pa_nil)))))))), ?_⟩
  try (set_option simprocs false in dsimp only [cxOf])
  refine ⟨_, rfl, _, _, _, _, rfl, TyOf.int n, kit_ii K, _, rfl, iteT ?_⟩
  exact ⟨_, rfl, _, _, _, _, rfl, TyOf.int n, kit_ib K, _, rfl, k⟩
end
end K21
set_option Elab.async false
set_option linter.all false
set_option maxRecDepth 100000
set_option maxHeartbeats 4000000
namespace K21
open PySem L2 RF
seal L2.PE L2.PA L2.PS L2.PSs L2.PT L2.PG L2.PI L2.PO L2.PEx L2.PSx L2.PSxs L2.PH L2.PW L2.PGs L2.PSet L2.OpR L2.CallR L2.SlR L2.IxR
section
variable {P : Program} {w : World} {K : PySem.W.Frag} {mg : Str → Option Value} {base : Heap} {cR cA cT cB cW cD cP cU cI cG cX : Addr}
noncomputable abbrev s_number_text : Stmt := top 21
theorem sc_number_text : FnScope ["number", "piece", "words", "left"] ["number"] (defScope s_number_text) := ⟨rfl, rfl, rfl, by decide +kernel, rfl, by decide +kernel, by decide +kernel⟩
theorem b_number_text : BindsAll "number_text" s_number_text ["number"] := binds1 fun _ _ _ _ _ _ _ => rfl
theorem ok_ntextF (D : Def K mg "number_text" s_number_text) : FnS P w K mg base "number_text" ["number"] 1 spF :=
  D.ok sc_number_text b_number_text (fun _ _ _ _ z => z.elim) fun f cdv A outer s H vs Q E hr h => h.elim
theorem ok_ntext0 (D : Def K mg "number_text" s_number_text) (T : Txt K mg cR cA cT cB cW cD cP cU cI cG cX) (F_number_text : FnS P w K mg base "number_text" ["number"] 1 spF) : FnS P w K mg base "number_text" ["number"] 2 sp_ntext0 := by
  refine D.ok sc_number_text b_number_text sp1_len fun f cdv A outer s H vs Q E hr h => ?_
  obtain ⟨_, rfl, n, rfl, n0, hn, q⟩ := h
  refine ⟨_, (pss_cons (ps_if (pt_cmpR op_lt (pv 0) pe_int (nomark _))
        (pss_one (ps_ret (pe_op op_add_str pe_str (cFn (hkk := Nat.le_refl _) F_number_text hr passes0 (ac (pe_un un_neg (pv 0)) pa_nil)))))
        pss_nil)
      (pss_cons (ps_set (i := 1) sc_number_text.nd rfl (Or.inl rfl) (pe_op op_pow pe_int pe_int))
      (pss_cons (ps_set (i := 2) sc_number_text.nd rfl (Or.inl rfl) (pe_lst pa_nil))
      (pss_cons (ps_set (i := 3) sc_number_text.nd rfl (Or.inl rfl) (pv 0))
      (pss_cons (ps_while own_pass (pt_cmpR op_ge (pv 3) (pv 1) (nomark _))
        (pss_cons (ps_expr (pe_bm PySem.F.plainAttrs_list PySem.F.slot_list_append PySem.F.type_list_append mt_append (pv 2) (ac (pe_bm PySem.F.plainAttrs_str PySem.F.slot_str_zfill PySem.F.type_str_zfill mt_zfill (cTy call_str (by rfl) T.str PyProof.Rows.Boot.«str» (ac (pe_op op_mod (pv 3) (pv 1)) pa_nil)) (ac pe_int pa_nil)) pa_nil)))
        (pss_one (ps_set (i := 3) sc_number_text.nd rfl (Or.inl rfl) (pe_op op_fdiv (pv 3) (pv 1))))))
      (pss_cons (ps_expr (pe_bm PySem.F.plainAttrs_list PySem.F.slot_list_append PySem.F.type_list_append mt_append (pv 2) (ac (cTy call_str (by rfl) T.str PyProof.Rows.Boot.«str» (ac (pv 3) pa_nil)) pa_nil)))
      (pss_one (ps_ret (pe_joinRev pe_str (pv 2) rfl rfl T.reversed))))))))), ?_⟩
  try (set_option simprocs false in dsimp only [cxOf])
  refine ⟨_, rfl, _, _, rfl, rfl, _, rfl, iteFe3 (decide_eq_false (by omega)) ?_⟩
  refine ⟨_, _, rfl, rfl, ⟨by decide, by decide, by decide⟩, by decide, fun lw fw => ⟨_, rfl, ?_⟩⟩
  refine ⟨fun m σ H' => m = 0 ∧ H' = upd H lw (.lst []) ∧ σ = [some (.int n), some (.int (10 ^ 60)), some (.ref lw), some (.int n)], ⟨0, rfl, rfl, rfl⟩, ?_⟩
  rintro m σ H' ⟨rfl, rfl, rfl⟩
  have lt : ¬ ((10 : Int) ^ 60 ≤ n) := fun h => by
    have h2 : n.natAbs = n.toNat := by omega
    rw [h2] at hn
    have : (n.toNat : Int) < ((10 ^ 60 : Nat) : Int) := Int.ofNat_lt.mpr hn
    rw [Int.toNat_of_nonneg n0] at this
    exact absurd h (by
      have e : ((10 ^ 60 : Nat) : Int) = (10 : Int) ^ 60 := by decide +kernel
      rw [← e]; omega)
  refine ⟨_, rfl, _, rfl, _, _, rfl, rfl, _, rfl, iteFe3 (decide_eq_false lt) ?_⟩
  refine ⟨_, rfl, .inl ⟨rfl, _, SqL.of upd_same⟩, _, rfl, .int n rfl (tx_log hn) ⟨lw, _, _, rfl, rfl, upd_same, by decide, ?_⟩⟩
  have S1 : Same H (upd (upd H lw (.lst [])) lw (.lst ([] ++ [.str (Str.ofString (toString n))]))) := (Same.new fw).upd fw
  exact ⟨_, rfl, _, rfl, .mk lw [tx n] rfl upd_same (joinOk_one (Nat.le_trans (tx_len hn) (by decide))) (q _ S1)⟩
theorem ok_ntext (D : Def K mg "number_text" s_number_text) (T : Txt K mg cR cA cT cB cW cD cP cU cI cG cX) (F_number_text : FnS P w K mg base "number_text" ["number"] 2 sp_ntext0) : FnS P w K mg base "number_text" ["number"] 3 sp_ntext := by
  refine D.ok sc_number_text b_number_text sp1_len fun f cdv A outer s H vs Q E hr h => ?_
  obtain ⟨_, rfl, n, rfl, hn, q⟩ := h
  refine ⟨_, (pss_cons (ps_if (pt_cmpR op_lt (pv 0) pe_int (nomark _))
        (pss_one (ps_ret (pe_op op_add_str pe_str (cFn (hkk := Nat.le_refl _) F_number_text hr passes0 (ac (pe_un un_neg (pv 0)) pa_nil)))))
        pss_nil)
      (pss_cons (ps_set (i := 1) sc_number_text.nd rfl (Or.inl rfl) (pe_op op_pow pe_int pe_int))
      (pss_cons (ps_set (i := 2) sc_number_text.nd rfl (Or.inl rfl) (pe_lst pa_nil))
      (pss_cons (ps_set (i := 3) sc_number_text.nd rfl (Or.inl rfl) (pv 0))
      (pss_cons (ps_while own_pass (pt_cmpR op_ge (pv 3) (pv 1) (nomark _))
        (pss_cons (ps_expr (pe_bm PySem.F.plainAttrs_list PySem.F.slot_list_append PySem.F.type_list_append mt_append (pv 2) (ac (pe_bm PySem.F.plainAttrs_str PySem.F.slot_str_zfill PySem.F.type_str_zfill mt_zfill (cTy call_str (by rfl) T.str PyProof.Rows.Boot.«str» (ac (pe_op op_mod (pv 3) (pv 1)) pa_nil)) (ac pe_int pa_nil)) pa_nil)))
        (pss_one (ps_set (i := 3) sc_number_text.nd rfl (Or.inl rfl) (pe_op op_fdiv (pv 3) (pv 1))))))
      (pss_cons (ps_expr (pe_bm PySem.F.plainAttrs_list PySem.F.slot_list_append PySem.F.type_list_append mt_append (pv 2) (ac (cTy call_str (by rfl) T.str PyProof.Rows.Boot.«str» (ac (pv 3) pa_nil)) pa_nil)))
      (pss_one (ps_ret (pe_joinRev pe_str (pv 2) rfl rfl T.reversed))))))))), ?_⟩
  try (set_option simprocs false in dsimp only [cxOf])
  by_cases n0 : n < 0
  · refine ⟨_, rfl, _, _, rfl, rfl, _, rfl, iteTe3 (decide_eq_true n0) ?_⟩
    have hn' : (-n).natAbs < 10 ^ 60 := by rw [Int.natAbs_neg]; exact hn
    refine ⟨_, rfl, _, rfl, _, rfl, -n, rfl, by omega, hn', fun H' S => ⟨_, _, rfl, rfl, ?_, ?_⟩⟩
    · have := tx_len hn'
      show 1 + (tx (-n)).length ≤ sizeLine
      have h2 : 62 ≤ sizeLine := by decide
      omega
    · rw [tx_minus n0]; exact q H' S
  refine ⟨_, rfl, _, _, rfl, rfl, _, rfl, iteFe3 (decide_eq_false n0) ?_⟩
  refine ⟨_, _, rfl, rfl, ⟨by decide, by decide, by decide⟩, by decide, fun lw fw => ⟨_, rfl, ?_⟩⟩
  refine ⟨fun m σ H' => m = 0 ∧ H' = upd H lw (.lst []) ∧ σ = [some (.int n), some (.int (10 ^ 60)), some (.ref lw), some (.int n)], ⟨0, rfl, rfl, rfl⟩, ?_⟩
  rintro m σ H' ⟨rfl, rfl, rfl⟩
  have lt : ¬ ((10 : Int) ^ 60 ≤ n) := fun h => by
    have h2 : n.natAbs = n.toNat := by omega
    rw [h2] at hn
    have : (n.toNat : Int) < ((10 ^ 60 : Nat) : Int) := Int.ofNat_lt.mpr hn
    rw [Int.toNat_of_nonneg (by omega)] at this
    exact absurd h (by
      have e : ((10 ^ 60 : Nat) : Int) = (10 : Int) ^ 60 := by decide +kernel
      rw [← e]; omega)
  refine ⟨_, rfl, _, rfl, _, _, rfl, rfl, _, rfl, iteFe3 (decide_eq_false lt) ?_⟩
  refine ⟨_, rfl, .inl ⟨rfl, _, SqL.of upd_same⟩, _, rfl, .int n rfl (tx_log hn) ⟨lw, _, _, rfl, rfl, upd_same, by decide, ?_⟩⟩
  have S1 : Same H (upd (upd H lw (.lst [])) lw (.lst ([] ++ [.str (Str.ofString (toString n))]))) := (Same.new fw).upd fw
  exact ⟨_, rfl, _, rfl, .mk lw [tx n] rfl upd_same (joinOk_one (Nat.le_trans (tx_len hn) (by decide))) (q _ S1)⟩
noncomputable def Gr (g : St → Hp → Prop) : St → Hp → Prop := g
noncomputable abbrev s_is_number : Stmt := top 23
theorem sc_is_number : FnScope ["word", "figures"] ["word"] (defScope s_is_number) := ⟨rfl, rfl, rfl, by decide +kernel, rfl, by decide +kernel, by decide +kernel⟩
theorem b_is_number : BindsAll "is_number" s_is_number ["word"] := binds1 fun _ _ _ _ _ _ _ => rfl
theorem ok_isnum (D : Def K mg "is_number" s_is_number) (T : Txt K mg cR cA cT cB cW cD cP cU cI cG cX) : FnS P w K mg base "is_number" ["word"] 1 sp_isnum := by
  refine D.ok sc_is_number b_is_number sp1_len fun f cdv A outer s H vs Q E hr h => ?_
  obtain ⟨_, rfl, x, rfl, hl, q⟩ := h
  refine ⟨_, (pss_cutF (Gr) (ps_set (i := 1) sc_is_number.nd rfl (Or.inl rfl) (pe_ifExp (pt_val (pe_bm PySem.F.plainAttrs_str PySem.F.slot_str_startswith PySem.F.type_str_startswith mt_startswith (pv 0) (ac pe_str pa_nil))) (pe_slice sl_str (pv 0) (po_some pe_int) po_none) (pv 0)))
      (pss_cons (ps_if (pt_not (pt_chain op_le op_le pe_int (cBi call_len_str (by rfl) T.len PyProof.Rows.Boot.«len» (ac (pv 1) pa_nil)) (pe_globI T.MOST_FIGURES)))
        (pss_one (ps_ret pe_bl))
        pss_nil)
      (pss_cons (ps_if (pt_not (pt_val (cBi (call_all rfl) (by rfl) T.all PyProof.Rows.Boot.«all» (ac (pe_comp (lv := 1) (caps := []) (N' := ["figure"]) rfl (CompOk.alone rfl (by decide +kernel) (by decide +kernel) rfl) (keep_name (by decide)) (pi_str (pv 1)) (fun _ _ _ _ => pg_name (i := 0) (show (["figure"] : List Str).Nodup by decide +kernel) rfl (Or.inl rfl)) (fun _ _ _ _ => (pe_cmpR op_inS (pv 0) (pe_globS T.FIGURES) (by with_unfolding_all rfl)))) pa_nil))))
        (pss_one (ps_ret pe_bl))
        pss_nil)
      (pss_one (ps_ret (pe_or (pe_cmpR op_ne (pe_ix ix_str (pv 1) pe_int (fun _ _ => rfl)) pe_str (nomark _)) (pe_one (pe_cmpR op_eq (pv 0) pe_str (nomark _))))))))), ?_⟩
  try (set_option simprocs false in dsimp only [cxOf])
  have hs : x.length ≤ sizeLine := Nat.le_trans hl (by decide)
  have lx : x.cps.toList.length = x.length := by rw [Array.length_toList]; rfl
  refine ⟨fun σ H' => ∃ y : Str, H' = H ∧ y.cps.toList = cutM x.cps.toList ∧ σ = [some (.str x), some (.str y)], ?_, ?_⟩
  rotate_left
  · refine ⟨_, rfl, rfl, .mk x "-" rfl rfl ⟨_, rfl, ?_⟩⟩
    rw [starts_minus]
    by_cases h : x.cps.toList.head? = some 45
    · refine iteTe3 (decide_eq_true h) ⟨_, rfl, _, rfl, .mk x rfl hs fun _ _ => ⟨_, rfl, ?_, rfl⟩⟩
      have h1 : 1 ≤ x.length := by
        rw [← lx]
        cases hc : x.cps.toList with
        | nil => rw [hc] at h; cases h
        | cons _ _ => rw [List.length_cons]; omega
      rw [cut_of_minus h]
      exact cutS_from (a := 1) h1
    · exact iteFe3 (decide_eq_false h) ⟨_, rfl, _, rfl, (cut_of_not h).symm, rfl⟩
  rintro _ _ ⟨y, rfl, ey, rfl⟩
  have clen : (cutM x.cps.toList).length ≤ x.cps.toList.length := by
    cases x.cps.toList with
    | nil => exact Nat.le_refl _
    | cons c r =>
      show (if c = 45 then r else c :: r).length ≤ _
      split
      · rw [List.length_cons]; omega
      · exact Nat.le_refl _
  have ly : y.length = (cutM x.cps.toList).length := by rw [← ey, Array.length_toList]; rfl
  have hsy : y.length ≤ sizeLine := by omega
  refine ⟨_, rfl, y, rfl, hsy, _, _, rfl, rfl, _, rfl, ?_⟩
  by_cases h1 : (1 : Int) ≤ (y.length : Int)
  rotate_left
  · refine iteFe3 (decide_eq_false h1) ⟨_, rfl, iteT ?_⟩
    have e : isNumB x.cps.toList = false := by
      unfold isNumB
      rw [decide_eq_false (show ¬ 1 ≤ (cutM x.cps.toList).length by omega)]; rfl
    have q := q _ (Same.refl _)
    rw [e] at q
    exact q
  refine iteTe3 (decide_eq_true h1) ⟨_, _, rfl, rfl, _, rfl, ?_⟩
  by_cases h2 : (y.length : Int) ≤ 60
  rotate_left
  · refine iteTe3 (by rw [decide_eq_false h2]; rfl) ?_
    have e : isNumB x.cps.toList = false := by
      unfold isNumB
      rw [decide_eq_false (show ¬ (cutM x.cps.toList).length ≤ 60 by omega), Bool.and_false]; rfl
    have q := q _ (Same.refl _)
    rw [e] at q
    exact q
  refine iteFe3 (by rw [decide_eq_true h2]; rfl) ?_
  have sy : y.cps.size = y.length := rfl
  have s60 : 60 < sizeLine := by decide
  refine ⟨_, rfl, y, rfl, comp_each y.cps.size (by omega) (fun i => .bl (dig (y.cps.toList.getD i 0))) (fun i H' hi _ => hi) (fun H' _ => Nat.le_refl _) ?_ ?_⟩
  · rintro i z H1 H2 Q' hi S ⟨rfl, c, hc, rfl⟩ q'
    refine ⟨_, rfl, .mk c _ rfl rfl ?_⟩
    have e : y.cps.toList.getD i 0 = c := by
      rw [List.getD_eq_getElem?_getD, Array.getElem?_toList, hc]; rfl
    have q2 := q' _ (Same.refl _)
    rw [e] at q2
    exact q2
  intro D H1 hD S eD
  have eb : (List.range y.cps.size).map (fun i => V.bl (dig (y.cps.toList.getD i 0))) = ((cutM x.cps.toList).map dig).map V.bl := by
    rw [← ey]
    apply List.ext_getElem?
    intro i
    rw [List.getElem?_map, List.getElem?_map, List.getElem?_map]
    by_cases hi : i < y.cps.size
    · rw [List.getElem?_range hi]
      show some (V.bl (dig (y.cps.toList.getD i 0))) = _
      rw [List.getD_eq_getElem?_getD, Array.getElem?_toList, Array.getElem?_eq_getElem hi]; rfl
    · rw [List.getElem?_eq_none (by rw [List.length_range]; omega), Array.getElem?_toList, Array.getElem?_eq_none (by omega)]; rfl
  rw [eb] at eD
  refine ⟨D, _, rfl, SqL.of eD, _, rfl, ?_⟩
  have ea : ((cutM x.cps.toList).map dig).all id = (cutM x.cps.toList).all dig := by rw [List.all_map]; rfl
  rw [ea]
  have c1 : decide (1 ≤ (cutM x.cps.toList).length) = true := decide_eq_true (by omega)
  have c2 : decide ((cutM x.cps.toList).length ≤ 60) = true := decide_eq_true (by omega)
  cases hd : (cutM x.cps.toList).all dig
  · refine iteT ?_
    have e : isNumB x.cps.toList = false := by
      unfold isNumB
      rw [hd, Bool.and_false]; rfl
    have q := q _ S
    rw [e] at q
    exact q
  · refine iteF ?_
    cases hc : cutM x.cps.toList with
    | nil => rw [hc] at ly; have : y.length = 0 := ly; omega
    | cons c r =>
      have hat : atI y.cps.toList 0 = some c := atI_nat (j := 0) (by rw [ey, hc]; rfl)
      refine ⟨_, rfl, y, 0, c, rfl, rfl, hsy, hat, rfl, _, rfl, ?_⟩
      have en : isNumB x.cps.toList = (decide (c ≠ 48) || decide (x.cps.toList = [48])) := by
        unfold isNumB
        rw [c1, c2, hd, hc]
        have : decide ((c :: r).head? ≠ some 48) = decide (c ≠ 48) := decide_eq_decide.mpr (by simp)
        rw [this]; rfl
      have q := q _ S
      rw [en] at q
      have e1 : (V.str ⟨#[c]⟩ = V.str (Str.ofString "0")) ↔ c = 48 := by
        constructor
        · intro z
          have z : (⟨#[c]⟩ : Str) = Str.ofString "0" := by injection z
          have z := congrArg (fun s : Str => s.cps.toList) z
          have : [c] = [48] := z
          injection this
        · rintro rfl; rfl
      by_cases hz : c = 48
      · refine iteFe3 (by rw [decide_eq_true (e1.mpr hz)]; rfl) ⟨_, rfl, rfl, ?_⟩
        rw [decide_eq_false (fun z => z hz), Bool.false_or] at q
        have e2 : decide (V.str x = V.str (Str.ofString "0")) = decide (x.cps.toList = [48]) := decide_eq_decide.mpr ⟨fun z => by
          have z : x = Str.ofString "0" := by injection z
          rw [z]; rfl, fun z => congrArg V.str (str_ext (by rw [z]; rfl))⟩
        rw [e2]; exact q
      · refine iteTe3 (by rw [decide_eq_false (fun z => hz (e1.mp z))]; rfl) ?_
        rw [decide_eq_true hz] at q
        exact q
noncomputable abbrev s_numbers_from : Stmt := top 22
theorem sc_numbers_from : FnScope ["words"] ["words"] (defScope s_numbers_from) := ⟨rfl, rfl, rfl, by decide +kernel, rfl, by decide +kernel, by decide +kernel⟩
theorem b_numbers_from : BindsAll "numbers_from" s_numbers_from ["words"] := binds1 fun _ _ _ _ _ _ _ => rfl
theorem ok_nfrom (D : Def K mg "numbers_from" s_numbers_from) (T : Txt K mg cR cA cT cB cW cD cP cU cI cG cX) (F_BadText : RowI P w K mg base "BadText" cX "row" 1) (F_is_number : FnS P w K mg base "is_number" ["word"] 1 sp_isnum) : FnS P w K mg base "numbers_from" ["words"] 3 (sp_nfrom cX) := by
  refine D.ok sc_numbers_from b_numbers_from sp1_len fun f cdv A outer s H vs Q E hr h => ?_
  obtain ⟨_, rfl, l, ts, rfl, el, hl, hz, yes, no⟩ := h
  refine ⟨_, (pss_cons (ps_if (pt_not (pt_val (cBi (call_all rfl) (by rfl) T.all PyProof.Rows.Boot.«all» (ac (pe_comp (lv := 1) (caps := []) (N' := ["word"]) rfl (CompOk.alone rfl (by decide +kernel) (by decide +kernel) rfl) (keep_name (by decide)) (pi_list (pv 0)) (fun _ _ _ _ => pg_name (i := 0) (show (["word"] : List Str).Nodup by decide +kernel) rfl (Or.inl rfl)) (fun _ _ _ _ => (cFn F_is_number hr passes0 (ac (pv 0) pa_nil)))) pa_nil))))
        (pss_one (ps_raiseRI F_BadText hr (ac pe_int pa_nil)))
        pss_nil)
      (pss_one (ps_ret (pe_comp (lv := 1) (caps := []) (N' := ["word"]) rfl (CompOk.alone rfl (by decide +kernel) (by decide +kernel) rfl) (keep_name (by decide)) (pi_list (pv 0)) (fun _ _ _ _ => pg_name (i := 0) (show (["word"] : List Str).Nodup by decide +kernel) rfl (Or.inl rfl)) (fun _ _ _ _ => (cTy call_intT (by rfl) T.int PyProof.Rows.Boot.«int» (ac (pv 0) pa_nil))))))), ?_⟩
  try (set_option simprocs false in dsimp only [cxOf])
  have s6 : 100000 < sizeLine := by decide
  refine ⟨_, rfl, l, rfl, ⟨_, SqL.of el⟩, comp_L (K := K) (SqL.of el) (by rw [List.length_map]; omega) nuV ?_ ?_⟩
  · intro x hx H' Q' S q'
    obtain ⟨t, ht, rfl⟩ := List.mem_map.mp hx
    exact ⟨_, rfl, _, rfl, t, rfl, hz t ht, fun H2 S2 => q' _ S2⟩
  intro D' H1 hD S eD
  have eb : (ts.map V.str).map nuV = (ts.map fun t => isNumB t.cps.toList).map V.bl := by rw [List.map_map, List.map_map]; rfl
  rw [eb] at eD
  refine ⟨D', _, rfl, SqL.of eD, _, rfl, ?_⟩
  have ea : (ts.map fun t => isNumB t.cps.toList).all id = true ↔ AllNum ts := by
    rw [List.all_map, List.all_eq_true]; exact Iff.rfl
  by_cases h : AllNum ts
  rotate_left
  · refine iteTe3 (by rw [Bool.eq_false_iff.mpr fun z => h (ea.mp z)]; rfl) ⟨_, rfl, fun d fd => ?_⟩
    exact no h d _ (S.trans (Same.new fd)) upd_same
  refine iteFe3 (by rw [ea.mpr h]; rfl) ?_
  have el1 := S _ _ el
  refine ⟨_, rfl, l, rfl, ⟨_, SqL.of el1⟩, comp_L (K := K) (SqL.of el1) (by rw [List.length_map]; omega) itV ?_ ?_⟩
  · intro x hx H' Q' S' q'
    obtain ⟨t, ht, rfl⟩ := List.mem_map.mp hx
    obtain ⟨⟨n, hn⟩, hl⟩ := reads (h t ht)
    refine ⟨_, rfl, .mk t n rfl hn (by omega) ?_⟩
    have := q' _ (Same.refl _)
    have e : itV (.str t) = .int n := by show V.int (valT t) = _; unfold valT; rw [hn]; rfl
    rw [e] at this
    exact this
  intro D2 H2 hD2 S2 eD2
  refine yes h D2 H2 (S.trans S2) (S.free hD2) ?_
  rw [eD2, List.map_map, List.map_map]; rfl
end
end K21
set_option Elab.async false
set_option linter.all false
set_option maxRecDepth 100000
set_option maxHeartbeats 4000000
namespace K21
open PySem L2 RF
seal L2.PE L2.PA L2.PS L2.PSs L2.PT L2.PG L2.PI L2.PO L2.PEx L2.PSx L2.PSxs L2.PH L2.PW L2.PGs L2.PSet L2.OpR L2.CallR L2.SlR L2.IxR
section
variable {P : Program} {w : World} {K : PySem.W.Frag} {mg : Str → Option Value} {base : Heap} {cR cA cT cB cW cD cP cU cI cG cX : Addr}
noncomputable def wdV (v : V) : Str := match v with
  | .int n => tx n
  | .str t => t
  | _ => ""
noncomputable def txV (v : V) : V := .str (wdV v)
theorem wd_map (vs : List V) : vs.map txV = (vs.map wdV).map V.str := by rw [List.map_map]; rfl
theorem wd_ints (ns : List Int) : (ns.map V.int).map wdV = ns.map tx := by rw [List.map_map]; rfl
theorem cut_fromW {ns : List Str} {k : Int} (h : 0 ≤ k) : cutV (ns.map V.str) (some k) none = (ns.drop k.toNat).map V.str := by
  have e : k = (k.toNat : Int) := by omega
  unfold cutV
  rw [HT.sIx_none, e, HT.sIx_nat, Int.toNat_natCast, List.map_drop]
  rcases Nat.le_total k.toNat (ns.map V.str).length with hl | hl
  · rw [Nat.min_eq_left hl]
    exact List.take_of_length_le (by rw [List.length_drop]; exact Nat.le_refl _)
  · rw [Nat.min_eq_right hl, List.drop_length, List.drop_of_length_le hl]
    simp
theorem cut_toW {ns : List Str} {k : Int} (h : 0 ≤ k) : cutV (ns.map V.str) none (some k) = (ns.take k.toNat).map V.str := by
  have e : k = (k.toNat : Int) := by omega
  unfold cutV
  rw [HT.sIx_none, e, HT.sIx_nat, List.drop_zero, Nat.sub_zero, Int.toNat_natCast, List.map_take]
  rcases Nat.le_total k.toNat (ns.map V.str).length with hl | hl
  · rw [Nat.min_eq_left hl]
  · rw [Nat.min_eq_right hl, List.take_length, List.take_of_length_le hl]
theorem Dj_len {ws : List Str} (h : ∀ t ∈ ws, t.length ≤ 100) (hl : ws.length ≤ 100) : (Dj ws).length ≤ 10200 := by
  have := jl_len (c := 46) (B := 100) (xs := ws.map fun t => t.cps.toList) (fun x hx => by
    obtain ⟨t, ht, rfl⟩ := List.mem_map.mp hx
    have := h t ht
    rw [str_len] at this
    exact this)
  rw [str_len, join_list]
  rw [List.length_map] at this
  have : ws.length * 101 ≤ 100 * 101 := Nat.mul_le_mul_right _ hl
  omega
inductive isp_ftext (cB : Addr) (a b : V) (H : Hp) (Q : VK) (E : XK) : Prop
  | mk (kept spare : List Int) (l : Addr) (ns : List Int) (B : Bas H a kept spare) (h1 : b = .ref l) (e : H l = some (.lst (ns.map V.int))) (n60 : ∀ n ∈ ns, n.natAbs < 10 ^ 60)
      (yes : Valid (kept ++ spare) ns → ∀ H', Same H H' → Q (.str (figT kept.length spare.length ns)) H') (no : ¬ Valid (kept ++ spare) ns → ∀ H', Same H H' → E (.ref cB) none H') : isp_ftext cB a b H Q E
noncomputable def sp_ftext (cB : Addr) : Sp := Sp2 (isp_ftext cB)
noncomputable abbrev s_figure_text : Stmt := top 19
theorem sc_figure_text : FnScope ["base", "figure", "words", "kept"] ["base", "figure"] (defScope s_figure_text) := ⟨rfl, rfl, rfl, by decide +kernel, rfl, by decide +kernel, by decide +kernel⟩
theorem b_figure_text : BindsAll "figure_text" s_figure_text ["base", "figure"] := binds2 fun _ _ _ _ _ _ _ _ => rfl
theorem ok_ftext (D : Def K mg "figure_text" s_figure_text) (T : Txt K mg cR cA cT cB cW cD cP cU cI cG cX) (F_refuse_no_figure : FnS P w K mg base "refuse_no_figure" ["base", "figure"] 2 (sp_refuse cB)) (F_number_text : FnS P w K mg base "number_text" ["number"] 3 sp_ntext) : FnS P w K mg base "figure_text" ["base", "figure"] 4 (sp_ftext cB) := by
  refine D.ok sc_figure_text b_figure_text sp2_len fun f cdv A outer s H vs Q E hr h => ?_
  obtain ⟨_, _, rfl, kept, spare, l, ns, B, rfl, el, n60, yes, no⟩ := h
  refine ⟨_, (pss_cons (ps_expr (cFn F_refuse_no_figure hr passes1 (ac (pv 0) (ac (pv 1) pa_nil))))
      (pss_cons (ps_setC (i := 2) (lv := 1) (caps := []) (N' := ["rest"]) (xe := fun _ _ _ _ _ _ => False) (fun _ _ _ _ _ _ _ _ _ _ _ _ _ z => z.elim) sc_figure_text.nd rfl (Or.inl rfl) rfl (CompOk.alone rfl (by decide +kernel) (by decide +kernel) rfl) (keep_name (by decide)) (pi_list (pv 1)) (fun _ _ _ _ => pg_name (i := 0) (show (["rest"] : List Str).Nodup by decide +kernel) rfl (Or.inl rfl)) (fun _ _ _ _ => (cFn F_number_text hr passes0 (ac (pv 0) pa_nil))))
      (pss_cons (ps_set (i := 3) sc_figure_text.nd rfl (Or.inl rfl) (pe_bm PySem.F.plainAttrs_str PySem.F.slot_str_join PySem.F.type_str_join mt_join pe_str (ac (pe_slice sl0L (pv 2) po_none (po_some (cBi call0len (by rfl) T.len PyProof.Rows.Boot.«len» (ac (pe_ix ix0T (pv 0) pe_int (fun _ _ => rfl)) pa_nil)))) pa_nil)))
      (pss_cons (ps_if (pt_cmpR op_eq (cBi call0len (by rfl) T.len PyProof.Rows.Boot.«len» (ac (pe_ix ix0T (pv 0) pe_int (fun _ _ => rfl)) pa_nil)) pe_int (nomark _))
        (pss_one (ps_ret (pv 3)))
        pss_nil)
      (pss_one (ps_ret (pe_op op_add_str (pe_op op_add_str (pv 3) pe_str) (pe_bm PySem.F.plainAttrs_str PySem.F.slot_str_join PySem.F.type_str_join mt_join pe_str (ac (pe_slice sl0L (pv 2) (po_some (cBi call0len (by rfl) T.len PyProof.Rows.Boot.«len» (ac (pe_ix ix0T (pv 0) pe_int (fun _ _ => rfl)) pa_nil))) po_none) pa_nil))))))))), ?_⟩
  try (set_option simprocs false in dsimp only [cxOf])
  have s99 : 99999 ≤ sizeLine := by decide
  obtain ⟨⟨t, rfl, BA⟩, gb⟩ := id B
  obtain ⟨t1, t2, e0, e1, e2⟩ := BA.ex
  have k6 := gb.k6; have s4 := gb.s4; have k1 := gb.k1
  refine ⟨_, rfl, _, rfl, _, _, rfl, kept, spare, l, ns, B, rfl, el, fun hv H1 S1 => ?_, fun hv H1 S1 => no hv H1 S1⟩
  have hlen : ns.length = kept.length + spare.length := by rw [hv.len, List.length_append]
  have el1 := S1 _ _ el
  refine ⟨_, rfl, l, rfl, ⟨_, SqL.of el1⟩, comp_L (K := K) (SqL.of el1) (by rw [List.length_map]; omega) txV ?_ ?_⟩
  · intro x hx H' Q' S q'
    obtain ⟨n, hn, rfl⟩ := List.mem_map.mp hx
    exact ⟨_, rfl, _, rfl, n, rfl, n60 n hn, fun H2 S2 => q' _ S2⟩
  intro p1 H2 f2 S2 ep
  rw [wd_map, wd_ints] at ep
  have S12 := S1.trans S2
  have wl : ∀ t ∈ ns.map tx, t.length ≤ 100 := fun t ht => by
    obtain ⟨n, hn, rfl⟩ := List.mem_map.mp ht
    have := tx_len (n60 n hn); omega
  refine ⟨rfl, _, rfl, _, rfl, t, _, _, _, rfl, rfl, SqT.of (S12 _ _ e0), rfl, t1, _, rfl, .inr (SqT.of (S12 _ _ e1)), _, rfl, p1, _, rfl, SqL.of ep, fun p2 f3 => ?_⟩
  rw [List.length_map, cut_toW (by omega)]
  have ek : (kept.length : Int).toNat = kept.length := Int.toNat_natCast _
  rw [ek]
  have N3 := Same.new (o := .lst (((ns.map tx).take kept.length).map V.str)) f3
  have S13 := S12.trans N3
  have ep3 := N3 _ _ ep
  refine .mk "." p2 ((ns.map tx).take kept.length) rfl rfl upd_same (join_ok (by decide) (fun t ht => by have := wl t (List.mem_of_mem_take ht); omega) (by rw [List.length_take, List.length_map]; omega)) ?_
  refine ⟨_, rfl, t, _, _, _, rfl, rfl, SqT.of (S13 _ _ e0), rfl, t2, _, rfl, .inr (SqT.of (S13 _ _ e2)), rfl, _, rfl, ?_⟩
  rw [List.length_map]
  by_cases hs : spare.length = 0
  · refine iteTe3 (by show decide (V.int (spare.length : Int) = V.int 0) = true; rw [hs]; exact decide_eq_true rfl) ⟨_, rfl, ?_⟩
    have r := yes hv _ S13
    unfold figT figW at r
    rw [if_pos hs] at r
    exact r
  refine iteFe3 (by show decide (V.int (spare.length : Int) = V.int 0) = false; exact decide_eq_false fun z => hs (by injection z with z; omega)) ?_
  have d1 := Dj_len (ws := (ns.map tx).take kept.length) (fun t ht => wl t (List.mem_of_mem_take ht)) (by rw [List.length_take, List.length_map]; omega)
  have d2 := Dj_len (ws := (ns.map tx).drop kept.length) (fun t ht => wl t (List.mem_of_mem_drop ht)) (by rw [List.length_drop, List.length_map]; omega)
  refine ⟨_, rfl, _, _, rfl, rfl, (by show (Dj _).length + 1 ≤ _; omega), rfl, _, rfl, _, rfl, t, _, _, _, rfl, rfl, SqT.of (S13 _ _ e0), rfl, t1, _, rfl, .inr (SqT.of (S13 _ _ e1)), _, rfl, p1, _, rfl, SqL.of ep3, fun p4 f4 => ?_⟩
  rw [List.length_map, cut_fromW (by omega), ek]
  have N4 := Same.new (o := .lst (((ns.map tx).drop kept.length).map V.str)) f4
  refine .mk "." p4 ((ns.map tx).drop kept.length) rfl rfl upd_same (join_ok (by decide) (fun t ht => by have := wl t (List.mem_of_mem_drop ht); omega) (by rw [List.length_drop, List.length_map]; omega)) ⟨_, _, rfl, rfl, ?_, ?_⟩
  · rw [strLen_append]; show (Dj _).length + 1 + (Dj _).length ≤ _; omega
  · have r := yes hv _ (S13.trans N4)
    unfold figT figW at r
    rw [if_neg hs] at r
    exact r
end
end K21
set_option Elab.async false
set_option linter.all false
set_option maxRecDepth 100000
set_option maxHeartbeats 2000000
namespace L2
open PySem PySem.Spec PyProof.Rows Builtin Builtin.ObjectAttr
theorem entry_unchain : entryFor table "proto.unchain" = some Builtin.«proto.unchain» := entryFor_of_fast (by kernel_rfl)
section
variable {prog : Program} {w : World} {A : Around} {E : Value → Shared → Prop} {s : Shared} {env : Env}
theorem unchain_none {e h : Addr} {oh : Obj} {vs : Array Value} {Q : Value → Shared → Prop} (hh : s.heap.get? h = some oh) (hd : oh.data = .fields vs) (h2 : vs[2]? = some .none) (hQ : Q .none s) :
    wpAny (model prog w) A (runValue (.builtin "proto.unchain" ⟨[.ref e, .ref h, .ref h, .bool false], []⟩)) Q E s := by
  refine wpAny_runValue (codeAny_builtin entry_unchain ?_)
  unfold Builtin.«proto.unchain»
  refine wpAny_bind (wpAny_field hh hd h2 ?_)
  rw [if_pos (by decide)]
  exact wpAny_pure hQ
theorem raiseNew_in {α : Type} {a h : Addr} {oh oe : Obj} {vs us : Array Value} {Q : α → Shared → Prop} (hm : A.handled = some (.ref h)) (hne : h ≠ a) (hh : s.heap.get? h = some oh) (hd : oh.data = .fields vs) (h2 : vs[2]? = some .none)
    (he : s.heap.get? a = some oe) (hu : oe.data = .fields us) (hz : 2 < us.size) (hE : E (.ref a) { s with heap := s.heap.update a (Obj.mapFields (·.setIfInBounds 2 (.ref h))) }) : wpAny (model prog w) A (raiseNew (.ref a) : Sem α) Q E s := by
  unfold raiseNew
  refine wpAny_bind (wpAny_handled ?_)
  rw [hm]
  have hb : ((Value.ref h != Value.ref a) = true) := by simpa using hne
  show wpAny _ _ (if (Value.ref h != Value.ref a) = true then _ else _) _ _ _
  rw [if_pos hb]
  refine wpAny_bind (wpAny_holding (unchain_none hh hd h2 ?_))
  unfold updateField
  refine wpAny_bind (wpAny_bind (wpAny_load he ?_))
  rw [hu]
  show wpAny _ _ (if 2 < us.size then _ else _) _ _ _
  rw [if_pos hz]
  exact wpAny_update he (wpAny_throw hE)
theorem raise_excN {nm q : Str} {C N : Addr} {bs bm : List Value} {hdct : Bool} {sn : List Str} {sub : List Value} {ab : Bool} {col : Option Bool} {dd : Option Addr} {k0 k1 k2 k3 k5 : Option Value} {newId : String} {x c : Sem Value} {h : Addr} {Q : Flow → Shared → Prop} (hbase : bm.contains (.type "BaseException") = true) (hm : A.handled = some (.ref h))
    (hx : wpAny (model prog w) A x (fun v s₁ => wpAny (model prog w) A c (fun cv s₂ => cv = .none ∧ ∃ e oe vs oh us, v = .ref e ∧ h ≠ e ∧ s₂.heap.get? C = some (excClassObj nm q C N bs bm hdct sn sub ab col dd k0 k1 k2 k3 k5 newId) ∧ s₂.heap.get? e = some oe ∧ oe.cls = .ref C ∧ oe.data = .fields vs ∧ 4 < vs.size ∧ vs[1]? = some .none ∧
      s₂.heap.get? h = some oh ∧ oh.data = .fields us ∧ us[2]? = some .none ∧
      E (.ref e) { s₂ with heap := ((s₂.heap.update e (Obj.mapFields (·.setIfInBounds 3 .none))).update e (Obj.mapFields (·.setIfInBounds 4 (.bool true)))).update e (Obj.mapFields (·.setIfInBounds 2 (.ref h))) }) E s₁) E s) :
    wpAny (model prog w) A (raiseStmt env (some x) (some c)) Q E s := by
  have hcB : (Value.ref C :: bm).contains (.type "BaseException") = true := by rw [List.contains_cons, hbase, Bool.or_true]
  unfold raiseStmt
  refine wpAny_bind (wpAny_mono hx (fun v s₁ h₁ => ?_) fun _ _ x => x)
  refine wpAny_bind (wpAny_holding (wpAny_mono h₁ (fun cv s₂ h₂ => ?_) fun _ _ x => x))
  obtain ⟨rfl, e, oe, vs, oh, us, rfl, hne, hC, he, hcl, hd, hz, h1, hh, hdh, h2, hE⟩ := h₂
  obtain ⟨hp, g, d, tk, os⟩ := s₂
  obtain ⟨oc, od, oda, osl⟩ := oe
  dsimp only at hcl hd he hE hC hh
  subst hcl hd
  repeat (first | with_reducible refine wpAny_loadPart_at he ?_ | with_reducible refine wpAny_loadPart_at hC ?_ | (with_reducible refine wpAny_isSubtype_exc hC ?_; rw [hcB]) | wp_step)
  have eC : e ≠ C := by
    rintro rfl
    rw [hC] at he
    simp [excClassObj] at he
  rw [if_pos (show 3 < vs.size by omega)]
  refine wpAny_update he ?_
  have he3 := Heap.get?_update_self (Obj.mapFields (·.setIfInBounds 3 .none)) he rfl
  have hC3 := (Heap.get?_update_other hp (Obj.mapFields (·.setIfInBounds 3 .none)) (a := e) (b := C) eC).trans hC
  have hh3 := (Heap.get?_update_other hp (Obj.mapFields (·.setIfInBounds 3 .none)) (a := e) (b := h) (Ne.symm hne)).trans hh
  refine wpAny_bind (wpAny_setField he3 rfl (by simpa using hz) ?_)
  have he4 := Heap.get?_update_self (Obj.mapFields (·.setIfInBounds 4 (.bool true))) he3 rfl
  have hC4 := (Heap.get?_update_other (hp.update e (Obj.mapFields (·.setIfInBounds 3 .none))) (Obj.mapFields (·.setIfInBounds 4 (.bool true))) (a := e) (b := C) eC).trans hC3
  have hh4 := (Heap.get?_update_other (hp.update e (Obj.mapFields (·.setIfInBounds 3 .none))) (Obj.mapFields (·.setIfInBounds 4 (.bool true))) (a := e) (b := h) (Ne.symm hne)).trans hh3
  have he4 : ((hp.update e (Obj.mapFields (·.setIfInBounds 3 .none))).update e (Obj.mapFields (·.setIfInBounds 4 (.bool true)))).get? e = some ⟨.ref C, od, .fields ((vs.setIfInBounds 3 .none).setIfInBounds 4 (.bool true)), osl⟩ := he4
  generalize (hp.update e (Obj.mapFields (·.setIfInBounds 3 .none))).update e (Obj.mapFields (·.setIfInBounds 4 (.bool true))) = h5 at *
  have z5 : 2 < ((vs.setIfInBounds 3 Value.none).setIfInBounds 4 (.bool true)).size := by simp; omega
  have w1 : ((vs.setIfInBounds 3 Value.none).setIfInBounds 4 (.bool true))[1]? = some .none := by
    rw [Array.getElem?_setIfInBounds_ne (by decide), Array.getElem?_setIfInBounds_ne (by decide)]; exact h1
  generalize (vs.setIfInBounds 3 Value.none).setIfInBounds 4 (.bool true) = v5 at *
  show wpAny (model prog w) A (do
      let t ← isType (Value.ref e)
      _) _ _ _
  repeat (first | with_reducible refine wpAny_loadPart_at he4 ?_ | with_reducible refine wpAny_loadPart_at hC4 ?_ | (with_reducible refine wpAny_isSubtype_exc hC4 ?_; rw [hcB]) | wp_step)
  rw [w1]
  refine wpAny_pure ?_
  rw [if_neg (by decide)]
  exact wpAny_pure (raiseNew_in hm hne hh4 hdh h2 he4 rfl z5 hE)
theorem Raise_initN {nm q : Str} {C N : Addr} {bs bm bmB : List Value} {hdct : Bool} {sn : List Str} {sub : List Value} {ab : Bool} {col : Option Bool} {dd : Option Addr} {k0 k1 k2 k3 k5 : Option Value} {B newId initId : String} (F : ExcBaseFacts B newId initId bmB) {mN : Str → Option Value} {x : Str} {np cpos pos cp : Pos} {cj : Nat} {args : List Expr} {fI h : Addr} {oI : Obj} {Q : Flow → Shared → Prop}
    (hbase : bm.contains (.type "BaseException") = true) (hm : A.handled = some (.ref h)) (hplain : (backTo cpos (starEach args env)).any (·.1) = false) (hi : mN "__init__" = some (.ref fI)) (hfc : oI.cls = .type "function")
    (hx : wpAny (model prog w) A (eval (.Name x np) env) (fun f s₁ => f = .ref C ∧ wpAny (model prog w) A (evalArgs (.ref C) true (backTo cpos (starEach args env)) [])
      (fun a s₂ => a.kw = [] ∧ a.pos.length ≤ sizeLine ∧ s₂.heap.get? C = some (excClassObj nm q C N bs bm hdct sn sub ab col dd k0 k1 k2 k3 k5 newId) ∧ s₂.heap.Ns N mN ∧ OwnTail s₂.heap bmB bm ∧ s₂.heap.get? fI = some oI ∧
        wpAny (model prog w) (A.under (.builtin "type.__call__" ⟨.ref C :: a.pos, []⟩)) (call (.ref fI) (.ref (s₂.heap.objs.size + 1) :: a.pos))
          (fun r s' => r = .none ∧ ∃ oe vs oh us, h ≠ s₂.heap.objs.size + 1 ∧ s'.heap.get? C = some (excClassObj nm q C N bs bm hdct sn sub ab col dd k0 k1 k2 k3 k5 newId) ∧ s'.heap.get? (s₂.heap.objs.size + 1) = some oe ∧ oe.cls = .ref C ∧ oe.data = .fields vs ∧ 4 < vs.size ∧ vs[1]? = some .none ∧
            s'.heap.get? h = some oh ∧ oh.data = .fields us ∧ us[2]? = some .none ∧
            E (.ref (s₂.heap.objs.size + 1)) { s' with heap := ((s'.heap.update (s₂.heap.objs.size + 1) (Obj.mapFields (·.setIfInBounds 3 .none))).update (s₂.heap.objs.size + 1) (Obj.mapFields (·.setIfInBounds 4 (.bool true)))).update (s₂.heap.objs.size + 1) (Obj.mapFields (·.setIfInBounds 2 (.ref h))) }) E
          { s₂ with heap := (s₂.heap.push (argT a.pos)).push (excO C s₂.heap.objs.size) }) E s₁) E s) :
    wpAny (model prog w) A (exec (.Raise (some (.Call (.Name x np) args [] cpos)) (some (.Constant .none cj cp)) pos) env) Q E s := by
  rw [arm_exec_Raise]
  refine wpAny_bind (wpAny_standAt (raise_excN (C := C) (nm := nm) (q := q) (N := N) (bs := bs) (bm := bm) (hdct := hdct) (sn := sn) (sub := sub) (ab := ab) (col := col) (dd := dd) (k0 := k0) (k1 := k1) (k2 := k2) (k3 := k3) (k5 := k5) (newId := newId) hbase hm ?_))
  refine wpAny_bind (wpAny_mono (wpAny_Call_ofName (wpAny_mono hx (fun f s₁ h₁ => ?_) fun _ _ x => x)) (fun v s₃ h₃ => wpAny_bind (wpAny_standAt (wpAny_pure (wpAny_bind (Constant_none (wpAny_bind (wpAny_standAt (wpAny_pure ⟨rfl, h₃⟩)))))))) fun _ _ x => x)
  obtain ⟨rfl, h₁⟩ := h₁
  unfold callWith
  refine wpAny_bind (wpAny_holding (wpAny_mono h₁ (fun a s₂ h₂ => wpAny_bind (wpAny_standAt ?_)) fun _ _ x => x))
  obtain ⟨apos, akw⟩ := a
  obtain ⟨hkw, hlen, hC, hn, T, hfI, h₂⟩ := h₂
  obtain rfl : akw = [] := hkw
  obtain ⟨hp, g, d, tk, os⟩ := s₂
  simp only [hplain]
  refine wpAny_bind (wpAny_keeperOf_exc hC ?_)
  refine wpAny_bind (call_exc_initT F T hC hn hi hfI hfc hlen (wpAny_mono h₂ (fun r s' hr => ?_) fun _ _ x => x))
  obtain ⟨rfl, oe, vs, oh, us, c0, c1, c2, c3, c4, c5, c6, c7, c8, c9, c10⟩ := hr
  exact ⟨rfl, wpAny_bind (wpAny_holding (wpAny_point (wpAny_pure ⟨_, oe, vs, oh, us, rfl, c0, c1, c2, c3, c4, c5, c6, c7, c8, c9, c10⟩)))⟩
end
section
variable {M : Model} {A : Around} {E : Value → Shared → Prop} {s : Shared}
theorem note_first {base : Heap} {env : Env} {outer : List Env} {L e : Addr} {oe : Obj} {vs : Array Value} {a0 : Value} {Q : Unit → Shared → Prop}
    (hfr : A.frames = some (env :: outer)) (hl : s.heap.FunFrames base (env :: outer)) (hf : env.frame = some L)
    (he : s.heap.get? e = some oe) (hkb : base.StaysIn s.heap) (hen : base.get? e = none) (hd : oe.data = .fields vs) (h1 : vs[1]? = some .none) (h0 : vs[0]? = some a0)
    (h : ∀ h', Heap.NotedW base (env :: outer) e oe.cls a0 (rawInt L) s.heap h' → Q () { s with heap := h' }) : wpAny M A (noteFrame (.ref e) env) Q E s := by
  unfold noteFrame
  simp only [hf]
  refine wpAny_bind (wpAny_field he hd h1 ?_)
  rw [if_neg (by decide)]
  exact wpAny_entryW hfr hl hf he hkb hen hd (Array.getElem?_eq_some_iff.mp h1).1 h0 h
theorem kd_cameBack {x : Value} {fo : Option Addr} {w : String} : KD (do
    if (← field x 1) == .none then unsupported w
    setFlight x fo) := KD.bind kd_field fun _ => KD.ite True.intro kd_setFlight
theorem came_back {env : Env} {base : Heap} {l : List Env} {e : Addr} {cls a0 fl : Value} (hkb : base.StaysIn s.heap) (hl : s.heap.FunFrames base l) (ht : s.heap.TracedAtW base e cls a0 fl)
    (h : ∀ h' fl', base.StaysIn h' → h'.FunFrames base l → h'.TracedAtW base e cls a0 fl' → s.heap.UpToSlots h' → DK s.heap h' → E (.ref e) { s with heap := h' }) : cameBackBy M A env E (.ref e) s := by
  unfold cameBackBy
  refine wpAny_dkQ kd_cameBack ?_
  obtain ⟨oe, vs, T, oT, ts, he, hcls, hd, h1, hnT, hTe, hT, hdT, h3⟩ := id ht
  refine wpAny_bind (wpAny_field he hd h1 ?_)
  rw [if_neg (show ¬ ((Value.ref T == Value.none) = true) from Bool.false_ne_true)]
  exact mark_set hkb hl ht fun h' fl' k1 k2 k3 k4 dk => h h' fl' k1 k2 k3 k4 dk
end
section
variable {P : Program} {w : World} {K : PySem.W.Frag} {mg : Str → Option Value} {base : Heap} {N : List Str} {qual : Str} {scope : Scope} {f : Addr} {cd : Value} {A : Around} {outer : List Env} {s s' : Shared} {H H1 : Hp} {E : XK}
  {pins : List (Addr × Obj)} {σ : St}
theorem left_handler {e C d : Addr} {oe oe' : Obj} {vs vs' : Array Value} {a0 : Value} {h3 : Heap} {hm : Option Value} (I : Inv (cxOf (CX1 P w) P w K mg base N qual scope f cd A outer s H E) pins σ H1 s')
    (he' : s'.heap.get? e = some oe') (hd' : oe'.data = .fields vs') (k3 : ∀ b, b ≠ e → h3.get? b = s'.heap.get? b) (he : h3.get? e = some oe) (hc : oe.cls = .ref C) (hdi : oe.dict = some d) (hd : oe.data = .fields vs) (h1 : vs[1]? = some .none) (h0 : vs[0]? = some a0)
    (old : s.heap.get? e = none) (n1 : H1 e = none) (hE : E (.ref C) (some d) H1) :
    notedBy (model P w) ((cxOf (CX1 P w) P w K mg base N qual scope f cd A outer s H E).A.mark hm) (cxOf (CX1 P w) P w K mg base N qual scope f cd A outer s H E).env
      (fun x s₂ => cameBackBy (model P w) (cxOf (CX1 P w) P w K mg base N qual scope f cd A outer s H E).A (cxOf (CX1 P w) P w K mg base N qual scope f cd A outer s H E).env (cxOf (CX1 P w) P w K mg base N qual scope f cd A outer s H E).xe x s₂) (.ref e) { s' with heap := h3 } := by
  have hfr : ∀ b ∈ frs (cxOf (CX1 P w) P w K mg base N qual scope f cd A outer s H E).stack, b ∈ e :: frs (cxOf (CX1 P w) P w K mg base N qual scope f cd A outer s H E).stack := fun b hb => .tail _ hb
  generalize hB : PySem.W.hideAll s'.heap (e :: frs (cxOf (CX1 P w) P w K mg base N qual scope f cd A outer s H E).stack) = B
  have be : B.get? e = none := by rw [← hB]; exact PySem.W.hideAll_none _ (.head _)
  have bS : B.StaysIn h3 := fun b o q => by
    rw [k3 b (fun z => by rw [z, be] at q; cases q)]
    rw [← hB] at q
    exact PySem.W.of_hideAll _ q
  have ne : ∀ b o, s'.heap.get? b = some o → (∀ vs, o.data ≠ .fields vs) → b ≠ e := fun b o q hn z => by rw [z, he'] at q; cases q; exact hn _ hd'
  have bF : h3.FunFrames B (cxOf (CX1 P w) P w K mg base N qual scope f cd A outer s H E).stack := by
    have y : s'.heap.FunFrames B (cxOf (CX1 P w) P w K mg base N qual scope f cd A outer s H E).stack := by
      rw [← hB]; exact PySem.W.funFrames_hide I.stack (fun env he' b hb => hfr b (List.mem_filterMap.mpr ⟨env, he', hb⟩))
    exact y.of_keeps fun b o hb hn => ⟨o, (k3 b (ne b o hb hn)).trans hb, rfl⟩
  unfold notedBy
  refine wpAny_dkQ kd_noteFrame (note_first (base := B) (a0 := a0) (show ((cxOf (CX1 P w) P w K mg base N qual scope f cd A outer s H E).A.mark hm).frames = _ from I.ok.frames) bF rfl he bS be hd h1 h0 fun h4 hN dk1 => ?_)
  obtain ⟨k1, k2, k4, k5⟩ := hN
  refine came_back (s := { s' with heap := h4 }) k1 k2 k4 fun h5 fl m1 m2 m3 m4 dk2 => ?_
  refine wpAny_dkQ kd_leaving (leaves_any (s := { s' with heap := h5 }) I.ok.frames rfl m1 be m2 m3 fun h6 r1 r2 r3 dk3 => ?_)
  rw [hc] at r2
  refine left_cx2 (d := some d) (s1 := s') (hid := e :: frs (cxOf (CX1 P w) P w K mg base N qual scope f cd A outer s H E).stack) (a0 := a0) I hfr (fun b hb => ?_) (by rw [hB]; exact r1) (fun b hb o ho hn => ?_) (by rw [hB]; exact r2) (.inl (.head _)) (fun o z => ⟨fun a za => ?_, fun n => nomatch n⟩) hE
  · rcases List.mem_cons.mp hb with rfl | hb
    · exact .inr ⟨old, n1⟩
    · exact .inl hb
  · obtain ⟨sl, q⟩ := k5 b o ((k3 b (ne b o ho hn)).trans ho) hn
    obtain ⟨sl1, q1⟩ := m4 b _ q hn
    obtain ⟨sl2, q2⟩ := r3 b _ q1 hn
    exact ⟨sl2, q2⟩
  · cases za
    exact (congrArg Prod.fst ((dk1.trans (dk2.trans dk3)).get he z)).trans hdi
end
section
variable {P : Program} {w : World} {K : PySem.W.Frag} {mg : Str → Option Value} {base : Heap} {N : List Str} {qual : Str} {scope : Scope} {f : Addr} {cd : Value} {A : Around} {outer : List Env} {s : Shared} {H : Hp} {E : XK}
theorem RoomM.make {k : Nat} {A : Around} (r : RoomM (k + 1) A) (C : Addr) (us : List Value) (kw : List (Str × Value)) : RoomM k (A.under (.builtin "type.__call__" ⟨.ref C :: us, kw⟩)) := ⟨by have := r.dp; rw [make_depth]; omega, by have := r.un; rw [make_units]; omega⟩
noncomputable def hRaise (K : PySem.W.Frag) (C1 C : Addr) (fld : Str) (n : Int) (E : XK) : TH := fun C' d _ _ H0 => (PySem.W.exmOne K C' (.ref C1) = some true ∧ ∃ c, C' = .ref c) ∧ d = none ∧ ∀ dd, H0 dd = none → E (.ref C) (some dd) (upd H0 dd (.xd [(fld, .int n)]))
theorem ph_raiseN {x y p1 fld : Str} {np np2 cpos rpos pos ip cp : Pos} {ij cj : Nat} {n : Int} {C1 C fI : Addr} {fd : FuncData} {k k' : Nat} (hm1 : mg x = some (.ref C1)) (hq : excInI K C fI bmV "ValueError.__new__" = true) (hm : mg y = some (.ref C)) (hfn : PySem.W.isFn K (.ref fI) = true)
    (FI : FnOkM P w K mg base k' fI fd ["self", p1] (spInit C fld)) (hb : Binds K fd ["self", p1] []) (hr : Room k (cxOf (CX1 P w) P w K mg base N qual scope f cd A outer s H E).A) (hkk : k' + 1 ≤ k := by decide)
    (hg1 : Gl (cxOf (CX1 P w) P w K mg base N qual scope f cd A outer s H E) x := by rfl) (hg : Gl (cxOf (CX1 P w) P w K mg base N qual scope f cd A outer s H E) y := by rfl) (hdb1 : (x == ("__debug__" : Str)) = false := by decide) (hdb : (y == ("__debug__" : Str)) = false := by decide) :
    PH (cxOf (CX1 P w) P w K mg base N qual scope f cd A outer s H E) [.ExceptHandler (some (.Name x np)) none [.Raise (some (.Call (.Name y np2) [.Constant (.int n) ij ip] [] cpos)) (some (.Constant .none cj cp)) rpos] pos] (hRaise K C1 C fld n E) := by
  intro pins s1 σ H0 D ea C' d I fl h
  obtain ⟨⟨hx, c, rfl⟩, rfl, hE⟩ := h
  have O : Own (cxOf (CX1 P w) P w K mg base N qual scope f cd A outer s H E) := own_cx
  obtain ⟨oe0, he0, hc0⟩ : ∃ oe, s1.heap.get? ea = some oe ∧ oe.cls = .ref c := by
    obtain ⟨oe, vs, T, oT, ts, a0, he, ⟨hc, _⟩, _⟩ := id fl
    exact ⟨oe, he, hc⟩
  refine wpAny_handleBy_cons (codeAny_handlers_test (ld_glob (X := (cxOf (CX1 P w) P w K mg base N qual scope f cd A outer s H E).mark ea) (I.mark ea) hg1 hm1 ?_ hdb1)) (by intro q; cases q)
  have LT : PySem.W.Looks (model P w) s1.heap (typeOf (.ref ea)) oe0.cls := (PySem.W.Looks.ld he0).andThen .now
  refine (PySem.W.exm_one I.kIn LT (by rw [hc0]; exact hx)).here ?_
  refine codeAny_handlers_suite (land_fly O I fl fun h' I' f' => ?_)
  obtain ⟨oe', vs, T, oT, ts', a0, he', ⟨hc', hx'⟩, h0, hd, h1, hne, hT, hdT, h3, n1, n2, hb'⟩ := f'
  obtain ⟨y1, y2, y3, y4⟩ := hb' ea (.inl rfl)
  have It := I'.track (C := c) (d := none) n1 ⟨oe', vs, he', ⟨hc', hx'⟩, hd⟩ y1 y2 y3 y4
  have Im := It.mark ea
  refine wpAny_execs_cons (wpAny_mono (Q := fun _ _ => False) ?_ (fun _ _ z => z.elim) (fun _ _ z => z))
  obtain ⟨tl, N', nm, q, bs, hdct, sn, sub, ab, col, dd, k0, k1, k2, k3, k5, mN, hC, hN, hi, T2⟩ := exc_objI I.ok.mod.kin hq
  obtain ⟨oI, hoI, hfc⟩ := fn_obj I.ok.mod.kin hfn
  have he := star_plain (es := []) (e := .Constant (.int n) ij ip) (env := (cxOf (CX1 P w) P w K mg base N qual scope f cd A outer s H E).env) rfl
  refine Raise_initN (C := C) (nm := nm) (q := q) (N := N') (bs := bs) (bm := tl) (hdct := hdct) (sn := sn) (sub := sub) (ab := ab) (col := col) (dd := dd) (k0 := k0) (k1 := k1) (k2 := k2) (k3 := k3) (k5 := k5)
    PySem.F.excBase_ValueError (mN := mN) (fI := fI) (oI := oI) (h := ea) (T2.hasType PySem.F.excBase_ValueError.hasBase) rfl (by rw [he]; rfl) hi hfc (ld_glob (X := (cxOf (CX1 P w) P w K mg base N qual scope f cd A outer s H E).mark ea) Im hg hm ⟨rfl, ?_⟩ hdb)
  have hs := (ac (X := ((cxOf (CX1 P w) P w K mg base N qual scope f cd A outer s H E).mark ea).nox) (pe_int (i := n) (j := ij) (pos := ip)) pa_nil) cpos pins _ σ _ (fun vs H1 => vs = [V.int n] ∧ H1 = upd H0 ea (.ext (exPhi ea c none))) (Im.wish _) ⟨rfl, rfl⟩
  rw [he] at hs ⊢
  refine Calls.evalArgs_plain (wpAny_mono hs (fun us s2 h2 => ?_) fun _ _ z => z.elim)
  obtain ⟨vs2, H2, I2, r, rfl, rfl⟩ := h2
  obtain ⟨u, rfl, ru⟩ := vals1 r
  have I2 := I2.unwish
  refine ⟨rfl, (by show 1 ≤ sizeLine; decide), I2.bk _ _ hC, hN.keeps I2.bk, T2.keeps I2.bk, I2.bk _ _ hoI, ?_⟩
  generalize hea : s2.heap.objs.size + 1 = e
  have kp : ∀ b o, s2.heap.get? b = some o → ((s2.heap.push (argT [u])).push (excO C s2.heap.objs.size)).get? b = some o := fun b o z => Heap.get?_push_of_some _ (Heap.get?_push_of_some _ z)
  have e1 : ((s2.heap.push (argT [u])).push (excO C s2.heap.objs.size)).get? e = some (excO C s2.heap.objs.size) := by
    have := Heap.get?_push_size (s2.heap.push (argT [u])) (o := excO C s2.heap.objs.size) rfl
    rw [Heap.size_push, hea] at this; exact this
  have hle : s2.heap.objs.size ≤ e := by rw [← hea]; exact Nat.le_succ _
  have fr : upd H0 ea (.ext (exPhi ea c none)) e = none := I2.hok.fresh hle
  have nea : ea ≠ e := by rintro rfl; rw [upd_same] at fr; cases fr
  have I3 : Inv ((cxOf (CX1 P w) P w K mg base N qual scope f cd A outer s H E).mark ea) pins σ (upd (upd H0 ea (.ext (exPhi ea c none))) e (.ext (exNew e C))) { s2 with heap := (s2.heap.push (argT [u])).push (excO C s2.heap.objs.size), toks := s2.toks } :=
    I2.laid kp hle ⟨⟨_, _, _, e1, rfl, rfl, rfl, rfl, rfl, (by show 4 < 6; decide)⟩, ⟨_, e1⟩, exNew_keep⟩
  have hsp : spInit C fld [.ref e, .int n] (upd (upd H0 ea (.ext (exPhi ea c none))) e (.ext (exNew e C))) (fun v' H' => v' = .non ∧ ∃ d, upd H0 ea (.ext (exPhi ea c none)) d = none ∧ d ≠ e ∧ H' = upd (upd (upd (upd H0 ea (.ext (exPhi ea c none))) e (.ext (exNew e C))) d (.xd [(fld, .int n)])) e (.ext (exSet e C d))) E0 :=
    ⟨_, _, rfl, e, rfl, upd_same, fun d hd => by
      have ne : d ≠ e := by rintro rfl; rw [upd_same] at hd; cases hd
      rw [upd_ne ne] at hd
      exact ⟨rfl, d, hd, ne, rfl⟩⟩
  refine wpAny_call (codeAny_mono (FI.run _ ((cxOf (CX1 P w) P w K mg base N qual scope f cd A outer s H E).mark ea).stack _ _ ⟨[.ref e, u], []⟩ [.ref e, u] _ _ (((hr.mono hkk).marked (some (.ref ea))).make C [u] []) (I3.env0.make C [u] []) (hb _ [.ref e, u] I3.kIn rfl) (show Vals [V.ref e, V.int n] [Value.ref e, u] from .cons rfl (.cons ru .nil)) hsp) fun r s' hq' => ?_)
  cases r with
  | error e =>
    obtain ⟨_, _, _, _, _, _, _, _, _, _, z⟩ := (show CX1 P w _ _ _ E0 e s' from hq')
    exact z.elim
  | ok flw =>
    cases flw with
    | ret u' =>
      obtain ⟨v', H', I4, rv, rfl, d, hd0, hdne, rfl⟩ := I3.after hq'
      have hu' : u' = Value.none := rv
      subst hu'
      have dea : d ≠ ea := by rintro rfl; rw [upd_same] at hd0; cases hd0
      have hd00 : H0 d = none := by rw [upd_ne dea] at hd0; exact hd0
      have e0 : H0 e = none := by rw [upd_ne (Ne.symm nea)] at fr; exact fr
      obtain ⟨⟨ox, vx, a0x, hex, hcx, hdx, hdatx, h0x, h1x, h4x⟩, _⟩ := (show ObjOk P w _ s'.heap e (.ext (exSet e C d)) from I4.hok e _ upd_same)
      obtain ⟨⟨oh, vh, hoh, ⟨_, dxh⟩, hdath⟩, _⟩ := (show ObjOk P w _ s'.heap ea (.ext (exPhi ea c none)) from I4.hok ea _ (by rw [upd_ne nea, upd_ne (Ne.symm dea), upd_ne nea, upd_same]))
      have h2h : vh[2]? = some .none := by
        have := dxh.2 rfl
        unfold fd2 at this
        rw [hdath] at this
        exact this
      have I5 := ((I4.unmark I.ok).untrack (a := e) upd_same).untrack (a := ea) (φ := exPhi ea c none) (by unfold hide1; rw [if_neg nea, upd_ne nea, upd_ne (Ne.symm dea), upd_ne nea, upd_same])
      have eH : hide1 (hide1 (upd (upd (upd (upd H0 ea (.ext (exPhi ea c none))) e (.ext (exNew e C))) d (.xd [(fld, .int n)])) e (.ext (exSet e C d))) e) ea = upd H0 d (.xd [(fld, .int n)]) := by
        funext b
        unfold hide1 upd
        by_cases hbA : b = ea
        · subst hbA; rw [if_pos rfl, if_neg (Ne.symm dea), n1]
        · rw [if_neg hbA]
          by_cases hbE : b = e
          · subst hbE; rw [if_pos rfl, if_neg (Ne.symm hdne), e0]
          · rw [if_neg hbE, if_neg hbE]
            by_cases hbD : b = d
            · rw [if_pos hbD, if_pos hbD]
            · rw [if_neg hbD, if_neg hbD, if_neg hbE, if_neg hbA]
      rw [eH] at I5
      have olds : s.heap.get? e = none := by
        cases z : s.heap.get? e with
        | none => rfl
        | some o =>
          obtain ⟨o', z'⟩ := I2.base.there e o z (fun z => nomatch z)
          exact absurd (Heap.lt_size z') (Nat.not_lt.mpr hle)
      refine ⟨rfl, ox, vx, oh, vh, nea, I4.bk _ _ hC, hex, hcx, hdatx, h4x, h1x, hoh, hdath, h2h, ?_⟩
      obtain ⟨oc, odd, oda, osl⟩ := ox
      have hcx : oc = .ref C := hcx
      have hdx : odd = some d := hdx
      have hdatx : oda = .fields vx := hdatx
      subst hcx hdx hdatx
      have g3 := Heap.get?_update_self (Obj.mapFields (·.setIfInBounds 3 .none)) hex rfl
      have g4 := Heap.get?_update_self (Obj.mapFields (·.setIfInBounds 4 (.bool true))) g3 rfl
      have g5 := Heap.get?_update_self (Obj.mapFields (·.setIfInBounds 2 (.ref ea))) g4 rfl
      refine left_handler (hm := some (.ref ea)) (a0 := a0x) I5 hex rfl (fun b hb => ?_) g5 rfl rfl rfl ?_ ?_ olds (by rw [upd_ne (Ne.symm hdne)]; exact e0) (hE d hd00)
      · rw [Heap.get?_update_other _ _ (Ne.symm hb), Heap.get?_update_other _ _ (Ne.symm hb), Heap.get?_update_other _ _ (Ne.symm hb)]
      · rw [Array.getElem?_setIfInBounds_ne (by decide), Array.getElem?_setIfInBounds_ne (by decide), Array.getElem?_setIfInBounds_ne (by decide)]; exact h1x
      · rw [Array.getElem?_setIfInBounds_ne (by decide), Array.getElem?_setIfInBounds_ne (by decide), Array.getElem?_setIfInBounds_ne (by decide)]; exact h0x
    | next => exact False.elim hq'
    | brk => exact False.elim hq'
    | cont => exact False.elim hq'
structure RowM (P : Program) (w : World) (K : PySem.W.Frag) (mg : Str → Option Value) (base : Heap) (x : Str) (C : Addr) (fld : Str) (k' : Nat) : Prop where
  ex : ∃ fI fd p1, excInI K C fI bmV "ValueError.__new__" = true ∧ mg x = some (.ref C) ∧ PySem.W.isFn K (.ref fI) = true ∧ FnOkM P w K mg base k' fI fd ["self", p1] (spInit C fld) ∧ Binds K fd ["self", p1] []
theorem ph_raiseNI {x y fld : Str} {np np2 cpos rpos pos ip cp : Pos} {ij cj : Nat} {n : Int} {C1 C : Addr} {k k' : Nat} (hm1 : mg x = some (.ref C1)) (F : RowM P w K mg base y C fld k') (hr : Room k (cxOf (CX1 P w) P w K mg base N qual scope f cd A outer s H E).A) (hkk : k' + 1 ≤ k := by decide)
    (hg1 : Gl (cxOf (CX1 P w) P w K mg base N qual scope f cd A outer s H E) x := by rfl) (hg : Gl (cxOf (CX1 P w) P w K mg base N qual scope f cd A outer s H E) y := by rfl) (hdb1 : (x == ("__debug__" : Str)) = false := by decide) (hdb : (y == ("__debug__" : Str)) = false := by decide) :
    PH (cxOf (CX1 P w) P w K mg base N qual scope f cd A outer s H E) [.ExceptHandler (some (.Name x np)) none [.Raise (some (.Call (.Name y np2) [.Constant (.int n) ij ip] [] cpos)) (some (.Constant .none cj cp)) rpos] pos] (hRaise K C1 C fld n E) := by
  obtain ⟨fI, fd, p1, hq, hm, hfn, FI, hb⟩ := F.ex
  exact ph_raiseN hm1 hq hm hfn FI hb hr hkk hg1 hg hdb1 hdb
end
end L2
set_option Elab.async false
set_option linter.all false
set_option maxRecDepth 100000
set_option maxHeartbeats 4000000
namespace K21
open PySem PySem.NumText L2 RF
seal L2.PE L2.PA L2.PS L2.PSs L2.PT L2.PG L2.PI L2.PO L2.PEx L2.PSx L2.PSxs L2.PH L2.PW L2.PGs L2.PSet L2.OpR L2.CallR L2.SlR L2.IxR L2.PEp L2.PAp L2.PSp L2.PSsp L2.PTp L2.PSxp L2.PSxsp L2.PExp L2.PEb L2.PAb L2.PSb
section
variable {P : Program} {w : World} {K : PySem.W.Frag} {mg : Str → Option Value} {base : Heap} {cR cA cT cB cW cD cP cU cI cG cX : Addr}
theorem dotW_len (x : Str) : (dotW x).length ≤ x.length + 2 := by
  have := PyProof.Rows.split_le (PySem.Txt.replace x ⟨#[58]⟩ ⟨#[46]⟩) ⟨#[46]⟩
  have e : (PySem.Txt.replace x ⟨#[58]⟩ ⟨#[46]⟩).length = x.length := by rw [str_len, rep_map, List.length_map, ← str_len]
  rw [e] at this; exact this
theorem jl_in_len {c : Nat} {x : List Nat} : ∀ {xs : List (List Nat)}, x ∈ xs → x.length ≤ (jl c xs).length
  | [], h => by cases h
  | [y], h => by rw [List.mem_singleton.mp h]; exact Nat.le_refl _
  | y :: z :: r, h => by
    show _ ≤ (y ++ c :: jl c (z :: r)).length
    rw [List.length_append, List.length_cons]
    rcases List.mem_cons.mp h with e | e
    · rw [e]; omega
    · have := jl_in_len (c := c) e; omega
theorem dotW_word (x : Str) : ∀ t ∈ dotW x, t.length ≤ x.length := fun t ht => by
  have j := StrLaws.join_split (PySem.Txt.replace x ⟨#[58]⟩ ⟨#[46]⟩) ⟨#[46]⟩
  have e := join_jl 46 (dotW x)
  rw [show Str.join ⟨#[46]⟩ (dotW x) = PySem.Txt.replace x ⟨#[58]⟩ ⟨#[46]⟩ from j, rep_map] at e
  have l := congrArg List.length e
  rw [List.length_map, ← str_len] at l
  rw [l, str_len]
  exact jl_in_len (List.mem_map_of_mem ht)
theorem digits_lt : ∀ (n : Nat) (cs : List Nat), cs.length = n → PySem.NumText.AllDigits cs → PySem.NumText.digitsVal cs < 10 ^ n
  | 0, cs, h, _ => by rw [List.length_eq_zero_iff.mp h]; decide
  | n + 1, cs, h, hd => by
    have hne : cs ≠ [] := fun z => by rw [z] at h; cases h
    have e := List.dropLast_concat_getLast hne
    have ih := digits_lt n cs.dropLast (by rw [List.length_dropLast, h]; rfl) (fun c hc => hd c ((List.dropLast_sublist cs).subset hc))
    have hl := hd _ (List.getLast_mem hne)
    rw [← e, PySem.NumText.digitsVal_snoc, Nat.pow_succ]
    omega
theorem val_60 {ws : List Str} (h : AllNum ws) : ∀ n ∈ ws.map valT, n.natAbs < 10 ^ 60 := fun n hn => by
  obtain ⟨t, ht, rfl⟩ := List.mem_map.mp hn
  obtain ⟨ds, hd, h1, h2, h3⟩ := isNum_cases (h t ht)
  have hne : ds ≠ [] := fun e => by rw [e] at h1; simp at h1
  have hl := (reads (h t ht)).2
  have b := digits_lt _ ds rfl h3
  have b2 : 10 ^ ds.length ≤ 10 ^ 60 := Nat.pow_le_pow_right (by decide) h2
  unfold valT
  rcases hd with e | e
  · have i := intText_digits (x := t) (by rw [e]; exact h3) (by rw [e]; exact hne) (by omega)
    rw [i, e]
    show (Int.natAbs ((PySem.NumText.digitsVal ds : Nat) : Int)) < _
    rw [Int.natAbs_natCast]; omega
  · have i := intText_neg (x := t) e h3 hne (by omega)
    rw [i]
    show (Int.natAbs (-((PySem.NumText.digitsVal ds : Nat) : Int))) < _
    rw [Int.natAbs_neg, Int.natAbs_natCast]; omega
inductive isp_ffrom (cX : Addr) (a b : V) (H : Hp) (Q : VK) (E : XK) : Prop
  | mk (kept spare : List Int) (x : Str) (B : Bas H a kept spare) (h1 : b = .str x) (hl : x.length ≤ 1000)
      (yes : FigOk kept.length spare.length (kept ++ spare) x → ∀ l' H', Same H H' → H l' = none → H' l' = some (.lst (((dotW x).map valT).map V.int)) → Q (.ref l') H')
      (no : ¬ FigOk kept.length spare.length (kept ++ spare) x → ∀ d H', Same H H' → H' d = some (.xd [("row", .int 1)]) → E (.ref cX) (some d) H') : isp_ffrom cX a b H Q E
noncomputable def sp_ffrom (cX : Addr) : Sp := Sp2 (isp_ffrom cX)
noncomputable abbrev s_figure_from : Stmt := top 20
theorem sc_figure_from : FnScope ["base", "text", "figure", "again"] ["base", "text"] (defScope s_figure_from) := ⟨rfl, rfl, rfl, by decide +kernel, rfl, by decide +kernel, by decide +kernel⟩
theorem b_figure_from : BindsAll "figure_from" s_figure_from ["base", "text"] := binds2 fun _ _ _ _ _ _ _ _ => rfl
theorem ok_ffrom (D : Def K mg "figure_from" s_figure_from) (T : Txt K mg cR cA cT cB cW cD cP cU cI cG cX) (F_BadText : RowI P w K mg base "BadText" cX "row" 1) (F_BadTextM : RowM P w K mg base "BadText" cX "row" 1) (xBB : PySem.W.exmOne K (.ref cB) (.ref cB) = some true) (F_numbers_from : FnS P w K mg base "numbers_from" ["words"] 3 (sp_nfrom cX)) (F_figure_text : FnS P w K mg base "figure_text" ["base", "figure"] 4 (sp_ftext cB)) : FnP P w K mg base "figure_from" ["base", "text"] 5 (sp_ffrom cX) := by
  refine D.okP sc_figure_from b_figure_from sp2_len fun f cdv A outer s H vs Q E hr h => ?_
  obtain ⟨_, _, rfl, kept, spare, x, B, rfl, hl, yes, no⟩ := h
  refine ⟨_, (pssp_cons (psp_set (i := 2) sc_figure_from.nd rfl (Or.inl rfl) (pep_fn (FnS.p F_numbers_from) hr passes1 (pap_cons (pep_bm PySem.F.plainAttrs_str PySem.F.slot_str_split PySem.F.type_str_split mt_split (pep_repl (PE.p (pv 1))) (ac pe_str pa_nil)) pap_nil)))
      (pssp_cons (PS.p (ps_try own_cx (psxs_one (psx_set (i := 3) sc_figure_from.nd rfl (Or.inl rfl) (xFn own_cx F_figure_text hr (ac (pv 0) (ac (pv 2) pa_nil)))))
        (ph_raiseNI T.BadFigure F_BadTextM hr)))
      (pssp_cons (PS.p (ps_if (pt_cmpR op_ne (pv 3) (pv 1) (nomark _))
        (pss_one (ps_raiseRI F_BadText hr (ac pe_int pa_nil)))
        pss_nil))
      (pssp_one (PS.p (ps_ret (pv 2))))))), ?_⟩
  try (set_option simprocs false in dsimp only [cxOf])
  have s99 : 99999 ≤ sizeLine := by decide
  have le : (PySem.Txt.replace x ⟨#[58]⟩ ⟨#[46]⟩).length = x.length := by rw [str_len, rep_map, List.length_map, ← str_len]
  refine ⟨_, rfl, .mk x rfl (by decide) (by omega) (by decide) ⟨rfl, .mk (PySem.Txt.replace x ⟨#[58]⟩ ⟨#[46]⟩) 46 rfl rfl (by omega) fun lw fw => ?_⟩⟩
  have N1 := Same.new (o := .lst ((dotW x).map V.str)) fw
  refine ⟨_, rfl, lw, dotW x, rfl, upd_same, (by have := dotW_len x; omega), (fun t ht => by have := dotW_word x t ht; omega), fun hn l1 H1 S1 f1 e1 => ?_, fun hn d H1 S1 ed => no (fun o => hn o.n) d H1 (N1.trans S1) ed⟩
  have S11 := N1.trans S1
  refine ⟨_, rfl, _, rfl, _, _, rfl, kept, spare, l1, (dotW x).map valT, B.up S11, rfl, e1, val_60 hn, fun hv H2 S2 => ?_, fun hv H2 S2 => ⟨⟨xBB, _, rfl⟩, rfl, fun dd hdd => no (fun o => hv o.v) dd _ ((S11.trans S2).trans (Same.new hdd)) upd_same⟩⟩
  have S12 := S11.trans S2
  refine ⟨_, rfl, _, rfl, rfl, _, rfl, ?_⟩
  by_cases ht : figT kept.length spare.length ((dotW x).map valT) = x
  · refine iteFe3 (by rw [decide_eq_true (congrArg V.str ht)]; rfl) ⟨_, rfl, yes ⟨hn, hv, ht⟩ l1 H2 S12 (N1.free f1) (S2 _ _ e1)⟩
  · exact iteTe3 (by rw [decide_eq_false (fun z => ht (by injection z))]; rfl) ⟨_, rfl, fun d fd => no (fun o => ht o.t) d _ (S12.trans (Same.new fd)) upd_same⟩
end
end K21
set_option Elab.async false
set_option linter.all false
set_option maxRecDepth 100000
set_option maxHeartbeats 2000000
namespace RF
open PySem L2
noncomputable def rawSome2 (n : Int) : List Int := [[2, 4, 8].getD (n % 3).toNat 0, [3, 9].getD (n / 3 % 2).toNat 0] ++ [5, 7, 11, 13, 17, 19, 23, 29, 101, 997, 9973, 999961, 999979, 999983]
theorem raw_ok2 (n : Int) : (∀ d ∈ rawSome2 n, 2 ≤ d ∧ d ≤ 1000000) ∧ (rawSome2 n).Pairwise Cop ∧ (rawSome2 n).length = 16 := by
  have all : ∀ i ∈ List.range 3, ∀ j ∈ List.range 2, (∀ d ∈ [[2, 4, 8].getD i (0 : Int), [3, 9].getD j 0] ++ [5, 7, 11, 13, 17, 19, 23, 29, 101, 997, 9973, 999961, 999979, 999983], 2 ≤ d ∧ d ≤ 1000000) ∧
      ([[2, 4, 8].getD i (0 : Int), [3, 9].getD j 0] ++ [5, 7, 11, 13, 17, 19, 23, 29, 101, 997, 9973, 999961, 999979, 999983]).Pairwise Cop := by decide +kernel
  obtain ⟨a, b⟩ := all (n % 3).toNat (List.mem_range.mpr (by omega)) (n / 3 % 2).toNat (List.mem_range.mpr (by omega))
  exact ⟨a, b, rfl⟩
theorem sorted_ok2 {n : Int} {l : List Int} (hp : l.Perm (rawSome2 n)) (hs : l.Pairwise (· ≤ ·)) : (∀ d ∈ l, 2 ≤ d ∧ d ≤ 1000000) ∧ l.Pairwise Cop ∧ l.Pairwise (· < ·) ∧ l.length = 16 := by
  obtain ⟨a, b, c⟩ := raw_ok2 n
  have a' : ∀ d ∈ l, 2 ≤ d ∧ d ≤ 1000000 := fun d hd => a d (hp.mem_iff.mp hd)
  have b' : l.Pairwise Cop := (hp.pairwise_iff (fun h => Cop.symm h)).mpr b
  exact ⟨a', b', rise_of (fun d hd => (a' d hd).1) b' hs, by rw [hp.length_eq, c]⟩
theorem turn_perm (l : List Int) (a : Nat) : (l.drop a ++ l.take a).Perm l := by
  have := List.perm_append_comm (l₁ := l.drop a) (l₂ := l.take a)
  rw [List.take_append_drop] at this
  exact this
theorem good_turn {kept spare : List Int} {a b : Nat} (h2 : ∀ d ∈ kept ++ spare, 2 ≤ d ∧ d ≤ 1000000) (hc : (kept ++ spare).Pairwise Cop) (hs : (kept ++ spare).Pairwise (· < ·)) (h1 : 1 ≤ kept.length) (h6 : kept.length ≤ 6) (h4 : spare.length ≤ 4) :
    GoodBase (kept.drop a ++ kept.take a) (spare.drop b ++ spare.take b) := by
  have p1 := turn_perm kept a
  have p2 := turn_perm spare b
  have p := p1.append p2
  have l1 := p1.length_eq
  have l2 := p2.length_eq
  exact ⟨by omega, by omega, by omega, fun d hd => h2 d (p.mem_iff.mp hd), (p.pairwise_iff (fun h => Cop.symm h)).mpr hc, fun k hk s hs' => (List.pairwise_append.mp hs).2.2 k (p1.mem_iff.mp hk) s (p2.mem_iff.mp hs')⟩
theorem stretch_sub {L : List Int} {a b d : Nat} (hab : a ≤ b) (hal : a ≤ L.length) : ((L.take b).drop a ++ (L.take d).drop (a + ((L.take b).drop a).length)).Sublist L := by
  have hl : a + ((L.take b).drop a).length = min b L.length := by rw [List.length_drop, List.length_take]; omega
  rw [hl]
  have e1 : L.take b = L.take (min b L.length) := by
    by_cases h : b ≤ L.length
    · rw [Nat.min_eq_left h]
    · rw [Nat.min_eq_right (by omega), List.take_of_length_le (by omega), List.take_of_length_le (Nat.le_refl _)]
  have s1 : ((L.take b).drop a).Sublist (L.take (min b L.length)) := e1 ▸ List.drop_sublist _ _
  have s2 : ((L.take d).drop (min b L.length)).Sublist (L.drop (min b L.length)) := by
    rw [List.drop_take]; exact List.take_sublist _ _
  have := s1.append s2
  rw [List.take_append_drop] at this
  exact this
theorem pickI {ns : List Int} {i : Int} (h0 : 0 ≤ i) (h1 : i < ns.length) : ∃ v ∈ ns, atI (ns.map V.int) i = some (.int v) := by
  have h : i.toNat < ns.length := by omega
  obtain ⟨v, hz⟩ : ∃ v, ns[i.toNat]? = some v := ⟨_, List.getElem?_eq_getElem h⟩
  refine ⟨v, List.mem_of_getElem? hz, ?_⟩
  have e : i = (i.toNat : Int) := by omega
  have a := atI_nat (j := i.toNat) (xs := ns.map V.int) (v := V.int v) (by rw [List.getElem?_map, hz]; rfl)
  rw [← e] at a
  exact a
theorem pickS {ts : List Str} {i : Int} (h0 : 0 ≤ i) (h1 : i < ts.length) : ∃ v ∈ ts, atI (ts.map V.str) i = some (.str v) := by
  have h : i.toNat < ts.length := by omega
  obtain ⟨v, hz⟩ : ∃ v, ts[i.toNat]? = some v := ⟨_, List.getElem?_eq_getElem h⟩
  refine ⟨v, List.mem_of_getElem? hz, ?_⟩
  have e : i = (i.toNat : Int) := by omega
  have a := atI_nat (j := i.toNat) (xs := ts.map V.str) (v := V.str v) (by rw [List.getElem?_map, hz]; rfl)
  rw [← e] at a
  exact a
end RF
set_option Elab.async false
set_option linter.all false
set_option maxRecDepth 100000
set_option maxHeartbeats 4000000
namespace K21
open PySem L2 RF
seal L2.PE L2.PA L2.PS L2.PSs L2.PT L2.PG L2.PI L2.PO L2.PEx L2.PSx L2.PSxs L2.PH L2.PW L2.PGs L2.PSet L2.OpR L2.CallR L2.SlR L2.IxR
section
variable {P : Program} {w : World} {K : PySem.W.Frag} {mg : Str → Option Value} {base : Heap} {cR cA cT cB cW cD cP cU cI cG cX : Addr}
noncomputable abbrev s__law_base_by : Stmt := top 27
theorem sc__law_base_by : FnScope ["_law_number", "_law_some", "_law_start", "_law_kept", "_law_spare", "_law_at"] ["_law_number"] (defScope s__law_base_by) := ⟨rfl, rfl, rfl, by decide +kernel, rfl, by decide +kernel, by decide +kernel⟩
theorem b__law_base_by : BindsAll "_law_base_by" s__law_base_by ["_law_number"] := binds1 fun _ _ _ _ _ _ _ => rfl
theorem ok_base_by (D : Def K mg "_law_base_by" s__law_base_by) (T : Txt K mg cR cA cT cB cW cD cP cU cI cG cX) : FnS P w K mg base "_law_base_by" ["_law_number"] 1 sp_base_by := by
  refine D.ok sc__law_base_by b__law_base_by sp1_len fun f cdv A outer s H vs Q E hr h => ?_
  obtain ⟨_, rfl, n, rfl, k⟩ := h
  refine ⟨_, (pss_cons (ps_set (i := 1) sc__law_base_by.nd rfl (Or.inl rfl) (pe_lst (ac (pe_ix ix0L (pe_lst (ac pe_int (ac pe_int (ac pe_int pa_nil)))) (pe_op op_mod (pv 0) pe_int) (fun _ _ => rfl)) (ac (pe_ix ix0L (pe_lst (ac pe_int (ac pe_int pa_nil))) (pe_op op_mod (pe_op op_fdiv (pv 0) pe_int) pe_int) (fun _ _ => rfl)) pa_nil))))
      (pss_cons (ps_set (i := 1) sc__law_base_by.nd rfl (Or.inl rfl) (cBi call_sorted (by rfl) T.sorted PyProof.Rows.Boot.«sorted» (ac (pe_op op0catS (pv 1) (pe_lst (ac pe_int (ac pe_int (ac pe_int (ac pe_int (ac pe_int (ac pe_int (ac pe_int (ac pe_int (ac pe_int (ac pe_int (ac pe_int (ac pe_int (ac pe_int (ac pe_int pa_nil)))))))))))))))) pa_nil)))
      (pss_cons (ps_set (i := 2) sc__law_base_by.nd rfl (Or.inl rfl) (pe_op op_mod (pe_op op_fdiv (pv 0) pe_int) pe_int))
      (pss_cons (ps_set (i := 3) sc__law_base_by.nd rfl (Or.inl rfl) (pe_slice sl0L (pv 1) (po_some (pv 2)) (po_some (pe_op op_add (pe_op op_add (pv 2) pe_int) (pe_op op_mod (pe_op op_fdiv (pv 0) pe_int) pe_int)))))
      (pss_cons (ps_set (i := 4) sc__law_base_by.nd rfl (Or.inl rfl) (pe_slice sl0L (pv 1) (po_some (pe_op op_add (pv 2) (cBi call0len (by rfl) T.len PyProof.Rows.Boot.«len» (ac (pv 3) pa_nil)))) (po_some (pe_op op_add (pe_op op_add (pv 2) (cBi call0len (by rfl) T.len PyProof.Rows.Boot.«len» (ac (pv 3) pa_nil))) (pe_op op_mod (pe_op op_fdiv (pv 0) pe_int) pe_int)))))
      (pss_cons (ps_set (i := 5) sc__law_base_by.nd rfl (Or.inl rfl) (pe_op op_mod (pe_op op_fdiv (pv 0) pe_int) (cBi call0len (by rfl) T.len PyProof.Rows.Boot.«len» (ac (pv 3) pa_nil))))
      (pss_one (ps_ret (pe_tup (ac (cTy call_tuple_of (by rfl) T.tuple PyProof.Rows.Boot.«tuple» (ac (pe_op op0catS (pe_slice sl0L (pv 3) (po_some (pv 5)) po_none) (pe_slice sl0L (pv 3) po_none (po_some (pv 5)))) pa_nil)) (ac (cTy call_tuple_of (by rfl) T.tuple PyProof.Rows.Boot.«tuple» (ac (pe_op op0catS (pe_slice sl0L (pv 4) (po_some pe_int) po_none) (pe_slice sl0L (pv 4) po_none (po_some pe_int))) pa_nil)) pa_nil))))))))))), ?_⟩
  try (set_option simprocs false in dsimp only [cxOf])
  refine ⟨by decide, fun p1 h1 => ⟨_, rfl, _, _, rfl, rfl, (by show (0 : Int) < 3; decide), p1, _, _, _, rfl, rfl, SqL.of upd_same, atI_mod (ns := [2, 4, 8]) n rfl (by decide), ?_⟩⟩
  refine ⟨by decide, fun p2 h2 => ⟨_, rfl, _, _, rfl, rfl, ⟨by decide, by decide⟩, _, _, rfl, rfl, (by show (0 : Int) < 2; decide), p2, _, _, _, rfl, rfl, SqL.of upd_same, atI_mod (ns := [3, 9]) (n / 3) rfl (by decide), ?_⟩⟩
  refine ⟨(by show 2 ≤ sizeLine; decide), fun p4 h4 => ?_⟩
  refine ⟨_, rfl, by decide, fun p5 h5 => ⟨p4, p5, _, _, rfl, rfl, SqL.of (by rw [upd_ne (by rintro rfl; rw [upd_same] at h5; cases h5)]; exact upd_same), SqL.of upd_same, (by show 2 + 14 ≤ sizeLine; decide), fun p6 h6 => ?_⟩⟩
  refine ⟨p6, rawSome2 n, rfl, SqL.of upd_same, (by show 16 < 64; decide), fun l L h7 hp hs => ?_⟩
  obtain ⟨l2, lc, lr, l16⟩ := sorted_ok2 hp hs
  have S2 := (((((Same.new h1).trans (Same.new h2)).trans (Same.new h4)).trans (Same.new h5)).trans (Same.new h6)).trans (Same.new (o := .lst (L.map V.int)) h7)
  revert S2
  generalize hG : upd _ l _ = G
  intro S2
  have hGl : G l = some (.lst (L.map V.int)) := by rw [← hG]; exact upd_same
  clear hG h1 h2 h4 h5 h6 h7
  refine ⟨_, rfl, _, _, rfl, rfl, ⟨by decide, by decide⟩, _, _, rfl, rfl, (by show (0 : Int) < 12; decide), ?_⟩
  have a0 : 0 ≤ n / 6 % 12 := by omega
  have a1 : n / 6 % 12 < 12 := by omega
  generalize n / 6 % 12 = a at *
  have b0 : 0 ≤ n / 54 % 6 := by omega
  have b1 : n / 54 % 6 < 6 := by omega
  refine ⟨_, rfl, _, rfl, _, rfl, _, rfl, _, _, rfl, rfl, _, rfl, _, _, rfl, rfl, ⟨by decide, by decide⟩, _, _, rfl, rfl, (by show (0 : Int) < 6; decide), _, _, rfl, rfl, _, rfl, l, _, rfl, SqL.of hGl, fun lk hk => ?_⟩
  generalize n / 54 % 6 = b at *
  rw [cut_mid (by omega) (by omega)]
  have U1 := Same.new (o := .lst (((L.take (a + 1 + b).toNat).drop a.toNat).map V.int)) hk
  have ek : upd G lk (.lst (((L.take (a + 1 + b).toNat).drop a.toNat).map V.int)) lk = some (.lst (((L.take (a + 1 + b).toNat).drop a.toNat).map V.int)) := upd_same
  have S3 := S2.trans U1
  have el := U1 _ _ hGl
  generalize upd G lk (.lst (((L.take (a + 1 + b).toNat).drop a.toNat).map V.int)) = G1 at *
  have d0 : 0 ≤ n / 324 % 5 := by omega
  have d1 : n / 324 % 5 < 5 := by omega
  have klen : ((L.take (a + 1 + b).toNat).drop a.toNat).length = min (a + 1 + b).toNat 16 - a.toNat := by rw [List.length_drop, List.length_take, l16]
  refine ⟨_, rfl, _, rfl, _, rfl, lk, _, rfl, .inl (SqL.of ek), _, _, rfl, rfl, _, rfl, _, rfl, _, rfl, lk, _, rfl, .inl (SqL.of ek), _, _, rfl, rfl, _, rfl, _, _, rfl, rfl, ⟨by decide, by decide⟩, _, _, rfl, rfl, (by show (0 : Int) < 5; decide), _, _, rfl, rfl, _, rfl, l, _, rfl, SqL.of el, fun ls hls => ?_⟩
  rw [List.length_map]
  generalize n / 324 % 5 = d at *
  generalize hkept : (L.take (a + 1 + b).toNat).drop a.toNat = kept at *
  have k1 : 1 ≤ kept.length := by omega
  have k6 : kept.length ≤ 6 := by omega
  rw [cut_mid (by omega) (by omega)]
  have et : (a + (kept.length : Int)).toNat = a.toNat + kept.length := by omega
  rw [et]
  have sub := stretch_sub (L := L) (a := a.toNat) (b := (a + 1 + b).toNat) (d := (a + (kept.length : Int) + d).toNat) (by omega) (by omega)
  rw [hkept] at sub
  have slen : ((L.take (a + (kept.length : Int) + d).toNat).drop (a.toNat + kept.length)).length ≤ 4 := by rw [List.length_drop, List.length_take]; omega
  generalize (L.take (a + (kept.length : Int) + d).toNat).drop (a.toNat + kept.length) = spare at *
  have U2 := Same.new (o := .lst (spare.map V.int)) hls
  have es : upd G1 ls (.lst (spare.map V.int)) ls = some (.lst (spare.map V.int)) := upd_same
  have S4 := S3.trans U2
  have ek2 := U2 _ _ ek
  generalize upd G1 ls (.lst (spare.map V.int)) = G2 at *
  refine ⟨_, rfl, _, _, rfl, rfl, ⟨by decide, by decide⟩, _, rfl, lk, _, rfl, .inl (SqL.of ek2), _, _, rfl, rfl, (by show (0 : Int) < _; rw [List.length_map]; omega), ?_⟩
  rw [List.length_map]
  have t0 : 0 ≤ n / 1620 % (kept.length : Int) := Int.emod_nonneg _ (by omega)
  generalize n / 1620 % (kept.length : Int) = at' at *
  have gb : GoodBase (kept.drop at'.toNat ++ kept.take at'.toNat) (spare.drop (1 : Int).toNat ++ spare.take (1 : Int).toNat) := good_turn (fun d hd => l2 d (sub.subset hd)) (lc.sublist sub) (lr.sublist sub) k1 k6 slen
  refine ⟨_, rfl, _, rfl, _, rfl, lk, _, rfl, SqL.of ek2, fun r1 f1 => ?_⟩
  rw [cut_from t0]
  have V1 := Same.new (o := .lst ((kept.drop at'.toNat).map V.int)) f1
  refine ⟨_, rfl, _, rfl, _, rfl, lk, _, rfl, SqL.of (V1 _ _ ek2), fun r2 f2 => ?_⟩
  rw [cut_to t0]
  have V2 := Same.new (o := .lst ((kept.take at'.toNat).map V.int)) f2
  refine ⟨r1, r2, _, _, rfl, rfl, SqL.of (V2 _ _ upd_same), SqL.of upd_same, ?_, fun r3 f3 => ?_⟩
  · rw [List.length_map, List.length_map, List.length_drop, List.length_take]
    have : 16 ≤ sizeLine := by decide
    omega
  rw [← List.map_append]
  refine ⟨r3, _, rfl, .inl ⟨SqL.of upd_same, fun t1 f4 => ?_⟩⟩
  have V3 := (Same.new (o := .lst ((kept.drop at'.toNat ++ kept.take at'.toNat).map V.int)) f3).trans (Same.new (o := .tup ((kept.drop at'.toNat ++ kept.take at'.toNat).map V.int)) f4)
  have W1 := (V1.trans V2).trans V3
  have es3 := W1 _ _ es
  have et1 : upd (upd (upd (upd G2 r1 (.lst ((kept.drop at'.toNat).map V.int))) r2 (.lst ((kept.take at'.toNat).map V.int))) r3 (.lst ((kept.drop at'.toNat ++ kept.take at'.toNat).map V.int))) t1 (.tup ((kept.drop at'.toNat ++ kept.take at'.toNat).map V.int)) t1 = some (.tup ((kept.drop at'.toNat ++ kept.take at'.toNat).map V.int)) := upd_same
  have S5 := S4.trans W1
  generalize upd (upd (upd (upd G2 r1 (.lst ((kept.drop at'.toNat).map V.int))) r2 (.lst ((kept.take at'.toNat).map V.int))) r3 (.lst ((kept.drop at'.toNat ++ kept.take at'.toNat).map V.int))) t1 (.tup ((kept.drop at'.toNat ++ kept.take at'.toNat).map V.int)) = G3 at *
  refine ⟨_, rfl, _, rfl, ls, _, rfl, SqL.of es3, fun r4 f5 => ?_⟩
  rw [cut_from (by decide)]
  have V4 := Same.new (o := .lst ((spare.drop (1 : Int).toNat).map V.int)) f5
  refine ⟨_, rfl, _, rfl, ls, _, rfl, SqL.of (V4 _ _ es3), fun r5 f6 => ?_⟩
  rw [cut_to (by decide)]
  have V5 := Same.new (o := .lst ((spare.take (1 : Int).toNat).map V.int)) f6
  refine ⟨r4, r5, _, _, rfl, rfl, SqL.of (V5 _ _ upd_same), SqL.of upd_same, ?_, fun r6 f7 => ?_⟩
  · rw [List.length_map, List.length_map, List.length_drop, List.length_take]
    have : 16 ≤ sizeLine := by decide
    omega
  rw [← List.map_append]
  refine ⟨r6, _, rfl, .inl ⟨SqL.of upd_same, fun t2 f8 => ⟨(by show 2 ≤ sizeLine; decide), fun t f9 => ?_⟩⟩⟩
  have V6 := (Same.new (o := .lst ((spare.drop (1 : Int).toNat ++ spare.take (1 : Int).toNat).map V.int)) f7).trans (Same.new (o := .tup ((spare.drop (1 : Int).toNat ++ spare.take (1 : Int).toNat).map V.int)) f8)
  have V7 := Same.new (o := .tup [.ref t1, .ref t2]) f9
  have W2 := (V4.trans V5).trans V6
  exact k _ _ t _ gb ((S5.trans W2).trans V7) ((S5.trans W2).free f9) ⟨t1, t2, upd_same, V7 _ _ (W2 _ _ et1), V7 _ _ upd_same⟩
end
end K21
set_option Elab.async false
set_option linter.all false
set_option maxRecDepth 100000
set_option maxHeartbeats 2000000
namespace RF
open PySem L2
noncomputable def markW : List Str := ["text", "base", "great", "figure", "wrong", "row", "input", "divisor", "place", "unlike"]
structure IsM (K : PySem.W.Frag) (cR c0 c1 c2 c3 c4 c5 c6 c7 c8 c9 : Addr) (c : Addr) (j : Nat) : Prop where
  g : ExcC K c
  r : PySem.W.exmOne K (.ref c) (.ref cR) = some true
  v : PySem.W.kitOne K (.ref c) (.type "ValueError") = some true
  k0 : PySem.W.kitOne K (.ref c) (.ref c0) = some (decide (j = 0))
  k1 : PySem.W.kitOne K (.ref c) (.ref c1) = some (decide (j = 1))
  k2 : PySem.W.kitOne K (.ref c) (.ref c2) = some (decide (j = 2))
  k3 : PySem.W.kitOne K (.ref c) (.ref c3) = some (decide (j = 3))
  k4 : PySem.W.kitOne K (.ref c) (.ref c4) = some (decide (j = 4))
  k5 : PySem.W.kitOne K (.ref c) (.ref c5) = some (decide (j = 5))
  k6 : PySem.W.kitOne K (.ref c) (.ref c6) = some (decide (j = 6))
  k7 : PySem.W.kitOne K (.ref c) (.ref c7) = some (decide (j = 7))
  k8 : PySem.W.kitOne K (.ref c) (.ref c8) = some (decide (j = 8))
  k9 : PySem.W.kitOne K (.ref c) (.ref c9) = some (decide (j = 9))
noncomputable def toldM (j : Nat) : List V := [.bl (decide (j = 0)), .bl (decide (j = 1)), .bl (decide (j = 2)), .bl (decide (j = 3)), .bl (decide (j = 4)), .bl (decide (j = 5)), .bl (decide (j = 6)), .bl (decide (j = 7)), .bl (decide (j = 8)), .bl (decide (j = 9))]
theorem toldM_eq (j : Nat) : toldM j = (List.range 10).map fun i => V.bl (decide (j = i)) := rfl
theorem toldM_at {j m : Nat} {z : V} (h : (toldM j)[m]? = some z) : z = .bl (decide (j = m)) := by
  rw [toldM_eq, List.getElem?_map] at h
  by_cases hm : m < 10
  · rw [List.getElem?_range hm] at h; exact (Option.some.inj h).symm
  · rw [List.getElem?_eq_none (by rw [List.length_range]; omega)] at h; cases h
theorem toldM_count {j : Nat} (h : j < 10) : (toldM j).countP (fun z => eqV z (.bl true)) = 1 := by
  have : ∀ i ∈ List.range 10, (toldM i).countP (fun z => eqV z (.bl true)) = 1 := by decide
  exact this j (List.mem_range.mpr h)
theorem toldM_hit {j : Nat} (h : j < 10) : ∃ z, (toldM j)[j]? = some z ∧ eqV z (.bl true) = true := by
  have hl : j < (toldM j).length := h
  refine ⟨(toldM j)[j], List.getElem?_eq_getElem hl, ?_⟩
  rw [toldM_at (List.getElem?_eq_getElem hl), decide_eq_true rfl]; rfl
theorem toldM_no {j m : Nat} {z : V} (h : m < j) (hz : (toldM j)[m]? = some z) : eqV z (.bl true) = false := by
  rw [toldM_at hz, decide_eq_false (show ¬ j = m by omega)]; rfl
theorem markW_at {j : Nat} {w : Str} (h : markW[j]? = some w) : atI (markW.map V.str) (j : Int) = some (.str w) := atI_nat (by rw [List.getElem?_map, h]; rfl)
structure ExM (K : PySem.W.Frag) (cR c0 c1 c2 c3 c4 c5 c6 c7 c8 c9 : Addr) (H : Hp) (ea c : Addr) (d : Option Addr) (w : Str) : Prop where
  e : H ea = some (.ext (exPhi ea c d))
  m : ∃ j, IsM K cR c0 c1 c2 c3 c4 c5 c6 c7 c8 c9 c j ∧ markW[j]? = some w
inductive isp_marks (K : PySem.W.Frag) (cR c0 c1 c2 c3 c4 c5 c6 c7 c8 c9 : Addr) (a : V) (H : Hp) (Q : VK) (E : XK) : Prop
  | mk (ea c : Addr) (d : Option Addr) (w : Str) (h0 : a = .ref ea) (h1 : ExM K cR c0 c1 c2 c3 c4 c5 c6 c7 c8 c9 H ea c d w) (q : ∀ H', Same H H' → Q (.str w) H') : isp_marks K cR c0 c1 c2 c3 c4 c5 c6 c7 c8 c9 a H Q E
noncomputable def sp_marks (K : PySem.W.Frag) (cR c0 c1 c2 c3 c4 c5 c6 c7 c8 c9 : Addr) : Sp := Sp1 (isp_marks K cR c0 c1 c2 c3 c4 c5 c6 c7 c8 c9)
end RF
set_option Elab.async false
set_option linter.all false
set_option maxRecDepth 100000
set_option maxHeartbeats 4000000
namespace K21
open PySem L2 RF
seal L2.PE L2.PA L2.PS L2.PSs L2.PT L2.PG L2.PI L2.PO L2.PEx L2.PSx L2.PSxs L2.PH L2.PW L2.PGs L2.PSet L2.OpR L2.CallR L2.SlR L2.IxR
section
variable {P : Program} {w : World} {K : PySem.W.Frag} {mg : Str → Option Value} {base : Heap} {cR cA cT cB cW cD cP cU cI cG cX : Addr}
noncomputable abbrev s__law_wholes : Stmt := top 32
theorem sc__law_wholes : FnScope ["_law_found", "_law_due", "_law_k"] ["_law_found", "_law_due"] (defScope s__law_wholes) := ⟨rfl, rfl, rfl, by decide +kernel, rfl, by decide +kernel, by decide +kernel⟩
theorem b__law_wholes : BindsAll "_law_wholes" s__law_wholes ["_law_found", "_law_due"] := binds2 fun _ _ _ _ _ _ _ _ => rfl
theorem ok_wholes (D : Def K mg "_law_wholes" s__law_wholes) (T : Txt K mg cR cA cT cB cW cD cP cU cI cG cX) (F__law_whole : FnS P w K mg base "_law_whole" ["_law_found"] 1 sp_whole) : FnS P w K mg base "_law_wholes" ["_law_found", "_law_due"] 2 sp_numbers := by
  refine D.ok sc__law_wholes b__law_wholes sp2_len fun f cdv A outer s H vs Q E hr h => ?_
  obtain ⟨_, _, rfl, l1, l2, ns, rfl, rfl, e1, e2, h100, k⟩ := h
  refine ⟨_, (pss_cons (ps_if (PW.pt (pw_or (pt_not (pt_val (cBi call_isi (by rfl) T.isinstance PyProof.Rows.Boot.«isinstance» (ac (pv 0) (ac (pe_ty rfl T.list PyProof.Rows.Boot.«list») pa_nil))))) (pw_or1 (pt_cmpR op_ne (cBi call0len (by rfl) T.len PyProof.Rows.Boot.«len» (ac (pv 0) pa_nil)) (cBi call0len (by rfl) T.len PyProof.Rows.Boot.«len» (ac (pv 1) pa_nil)) (nomark _)))))
        (pss_one (ps_ret pe_bl))
        pss_nil)
      (pss_cons (ps_for own_pass rfl (pi_range1 rfl T.range (ac (cBi call0len (by rfl) T.len PyProof.Rows.Boot.«len» (ac (pv 1) pa_nil)) pa_nil)) (pg_name (i := 2) sc__law_wholes.nd rfl (Or.inl rfl))
        (pss_one (ps_if (PW.pt (pw_or (pt_not (pt_val (cFn F__law_whole hr passes0 (ac (pe_ix ix0L (pv 0) (pv 2) (fun _ _ => rfl)) pa_nil)))) (pw_or1 (pt_cmpR op_ne (pe_ix ix0L (pv 0) (pv 2) (fun _ _ => rfl)) (pe_ix ix0L (pv 1) (pv 2) (fun _ _ => rfl)) (nomark _)))))
          (pss_one (ps_ret pe_bl))
          pss_nil)))
      (pss_one (ps_ret pe_bl)))), ?_⟩
  try (set_option simprocs false in dsimp only [cxOf])
  refine ⟨_, rfl, _, _, _, _, rfl, TyOf.lst e1, kit_ll K, _, rfl, iteF ?_⟩
  refine ⟨_, rfl, l1, _, rfl, .inl (SqL.of e1), _, rfl, l2, _, rfl, .inl (SqL.of e2), rfl, _, rfl, iteNS rfl ?_⟩
  have hlen : ((ns.map V.int).length : Int).toNat = ns.length := by rw [List.length_map]; omega
  refine ⟨_, rfl, l2, _, rfl, .inl (SqL.of e2), _, rfl, (by rw [List.length_map]; omega), (by rw [List.length_map]; omega), ?_⟩
  rw [hlen]
  refine for_range (fun i σ H' => H' = H ∧ ∃ y : Option V, σ = [some (.ref l1), some (.ref l2), y]) ⟨rfl, none, rfl⟩ ?_ ?_
  rotate_left
  · rintro σ H' ⟨rfl, y, rfl⟩
    exact k _ (Same.refl _)
  rintro i σ H' hi ⟨rfl, y, rfl⟩
  obtain ⟨d, _, hat⟩ := pickI (ns := ns) (i := 0 + (i : Int)) (by omega) (by omega)
  exact ⟨_, rfl, _, rfl, l1, _, _, _, rfl, rfl, SqL.of e1, hat, _, rfl, d, rfl, _, rfl, iteF ⟨_, rfl, _, rfl, l1, _, _, _, rfl, rfl, SqL.of e1, hat, _, rfl, _, rfl, l2, _, _, _, rfl, rfl, SqL.of e2, hat, rfl, _, rfl, iteFe3 (by rw [decide_eq_true rfl]; rfl) ⟨rfl, _, rfl⟩⟩⟩
noncomputable abbrev s__law_marks : Stmt := top 33
theorem sc__law_marks : FnScope ["_law_error", "_law_marks_here", "_law_some"] ["_law_error"] (defScope s__law_marks) := ⟨rfl, rfl, rfl, by decide +kernel, rfl, by decide +kernel, by decide +kernel⟩
theorem b__law_marks : BindsAll "_law_marks" s__law_marks ["_law_error"] := binds1 fun _ _ _ _ _ _ _ => rfl
theorem ok_marks (D : Def K mg "_law_marks" s__law_marks) (T : Txt K mg cR cA cT cB cW cD cP cU cI cG cX) : FnS P w K mg base "_law_marks" ["_law_error"] 1 (sp_marks K cR cX cA cT cB cW cG cI cD cP cU) := by
  refine D.ok sc__law_marks b__law_marks sp1_len fun f cdv A outer s H vs Q E hr h => ?_
  obtain ⟨_, rfl, ea, c, d, w', rfl, ⟨h0, j, G, hw⟩, k⟩ := h
  refine ⟨_, (pss_cons (ps_set (i := 1) sc__law_marks.nd rfl (Or.inl rfl) (pe_lst (ac (cBi call_isiE (by rfl) T.isinstance PyProof.Rows.Boot.«isinstance» (ac (pv 0) (ac (pe_glob (v := .ref _) rfl T.BadText rfl) pa_nil))) (ac (cBi call_isiE (by rfl) T.isinstance PyProof.Rows.Boot.«isinstance» (ac (pv 0) (ac (pe_glob (v := .ref _) rfl T.BadBase rfl) pa_nil))) (ac (cBi call_isiE (by rfl) T.isinstance PyProof.Rows.Boot.«isinstance» (ac (pv 0) (ac (pe_glob (v := .ref _) rfl T.TooGreat rfl) pa_nil))) pa_nil)))))
      (pss_cons (ps_set (i := 1) sc__law_marks.nd rfl (Or.inl rfl) (pe_op op0catS (pv 1) (pe_lst (ac (cBi call_isiE (by rfl) T.isinstance PyProof.Rows.Boot.«isinstance» (ac (pv 0) (ac (pe_glob (v := .ref _) rfl T.BadFigure rfl) pa_nil))) (ac (cBi call_isiE (by rfl) T.isinstance PyProof.Rows.Boot.«isinstance» (ac (pv 0) (ac (pe_glob (v := .ref _) rfl T.Wrong rfl) pa_nil))) (ac (cBi call_isiE (by rfl) T.isinstance PyProof.Rows.Boot.«isinstance» (ac (pv 0) (ac (pe_glob (v := .ref _) rfl T.RowTooGreat rfl) pa_nil))) pa_nil))))))
      (pss_cons (ps_set (i := 1) sc__law_marks.nd rfl (Or.inl rfl) (pe_op op0catS (pv 1) (pe_lst (ac (cBi call_isiE (by rfl) T.isinstance PyProof.Rows.Boot.«isinstance» (ac (pv 0) (ac (pe_glob (v := .ref _) rfl T.BadInput rfl) pa_nil))) (ac (cBi call_isiE (by rfl) T.isinstance PyProof.Rows.Boot.«isinstance» (ac (pv 0) (ac (pe_glob (v := .ref _) rfl T.BadDivisor rfl) pa_nil))) (ac (cBi call_isiE (by rfl) T.isinstance PyProof.Rows.Boot.«isinstance» (ac (pv 0) (ac (pe_glob (v := .ref _) rfl T.BadPlace rfl) pa_nil))) pa_nil))))))
      (pss_cons (ps_expr (pe_bm PySem.F.plainAttrs_list PySem.F.slot_list_append PySem.F.type_list_append mt_append (pv 1) (ac (cBi call_isiE (by rfl) T.isinstance PyProof.Rows.Boot.«isinstance» (ac (pv 0) (ac (pe_glob (v := .ref _) rfl T.Unlike rfl) pa_nil))) pa_nil)))
      (pss_cons (ps_if (PW.pt (pw_or (pt_not (pt_val (cBi call_isiE (by rfl) T.isinstance PyProof.Rows.Boot.«isinstance» (ac (pv 0) (ac (pe_ty rfl T.ValueError PyProof.Rows.Boot.«ValueError») pa_nil))))) (pw_or1 (pt_cmpR op_ne (pe_bm PySem.F.plainAttrs_list PySem.F.slot_list_count PySem.F.type_list_count mt_count (pv 1) (ac pe_bl pa_nil)) pe_int (nomark _)))))
        (pss_one (ps_ret pe_str))
        pss_nil)
      (pss_cons (ps_set (i := 2) sc__law_marks.nd rfl (Or.inl rfl) (pe_lst (ac pe_str (ac pe_str (ac pe_str (ac pe_str (ac pe_str (ac pe_str (ac pe_str (ac pe_str (ac pe_str (ac pe_str pa_nil))))))))))))
      (pss_one (ps_ret (pe_ix ix0L (pv 2) (pe_bm PySem.F.plainAttrs_list PySem.F.slot_list_index PySem.F.type_list_index mt_index (pv 1) (ac pe_bl pa_nil)) (fun _ _ => rfl)))))))))), ?_⟩
  try (set_option simprocs false in dsimp only [cxOf])
  refine ⟨_, rfl, ea, c, d, _, _, _, rfl, .inr ⟨_, rfl, rfl⟩, h0, G.g, G.k0, _, rfl, ea, c, d, _, _, _, rfl, .inr ⟨_, rfl, rfl⟩, h0, G.g, G.k1, _, rfl, ea, c, d, _, _, _, rfl, .inr ⟨_, rfl, rfl⟩, h0, G.g, G.k2, (by show 3 ≤ sizeLine; decide), fun p1 f1 => ?_⟩
  have N1 := Same.new (o := .lst [.bl (decide (j = 0)), .bl (decide (j = 1)), .bl (decide (j = 2))]) f1
  have h1 := N1 _ _ h0
  refine ⟨_, rfl, _, rfl, ea, c, d, _, _, _, rfl, .inr ⟨_, rfl, rfl⟩, h1, G.g, G.k3, _, rfl, ea, c, d, _, _, _, rfl, .inr ⟨_, rfl, rfl⟩, h1, G.g, G.k4, _, rfl, ea, c, d, _, _, _, rfl, .inr ⟨_, rfl, rfl⟩, h1, G.g, G.k5, (by show 3 ≤ sizeLine; decide), fun p2 f2 => ?_⟩
  have N2 := Same.new (o := .lst [.bl (decide (j = 3)), .bl (decide (j = 4)), .bl (decide (j = 5))]) f2
  refine ⟨p1, p2, _, _, rfl, rfl, SqL.of (N2 _ _ upd_same), SqL.of upd_same, (by show 3 + 3 ≤ sizeLine; decide), fun p3 f3 => ?_⟩
  have N3 := Same.new (o := .lst ([.bl (decide (j = 0)), .bl (decide (j = 1)), .bl (decide (j = 2))] ++ [.bl (decide (j = 3)), .bl (decide (j = 4)), .bl (decide (j = 5))])) f3
  have A3 := N1.trans (N2.trans N3)
  have h3 := A3 _ _ h0
  refine ⟨_, rfl, _, rfl, ea, c, d, _, _, _, rfl, .inr ⟨_, rfl, rfl⟩, h3, G.g, G.k6, _, rfl, ea, c, d, _, _, _, rfl, .inr ⟨_, rfl, rfl⟩, h3, G.g, G.k7, _, rfl, ea, c, d, _, _, _, rfl, .inr ⟨_, rfl, rfl⟩, h3, G.g, G.k8, (by show 3 ≤ sizeLine; decide), fun p4 f4 => ?_⟩
  have N4 := Same.new (o := .lst [.bl (decide (j = 6)), .bl (decide (j = 7)), .bl (decide (j = 8))]) f4
  refine ⟨p3, p4, _, _, rfl, rfl, SqL.of (N4 _ _ upd_same), SqL.of upd_same, (by show 6 + 3 ≤ sizeLine; decide), fun p5 f5 => ?_⟩
  have N5 := Same.new (o := .lst (([.bl (decide (j = 0)), .bl (decide (j = 1)), .bl (decide (j = 2))] ++ [.bl (decide (j = 3)), .bl (decide (j = 4)), .bl (decide (j = 5))]) ++ [.bl (decide (j = 6)), .bl (decide (j = 7)), .bl (decide (j = 8))])) f5
  have A5 := A3.trans (N4.trans N5)
  have h5 := A5 _ _ h0
  refine ⟨_, rfl, .inl ⟨rfl, _, SqL.of upd_same⟩, _, rfl, ea, c, d, _, _, _, rfl, .inr ⟨_, rfl, rfl⟩, h5, G.g, G.k9, p5, _, _, rfl, rfl, upd_same, (by show 9 < sizeLine; decide), ?_⟩
  have hj : j < 10 := (List.getElem?_eq_some_iff.mp hw).1
  have S6 := A5.upd (o := .lst (toldM j)) ((A3.trans N4).free f5)
  have h6 := S6 _ _ h0
  refine ⟨_, rfl, ea, c, d, _, _, _, rfl, .inl ⟨"ValueError", rfl, rfl⟩, h6, G.g, G.v, _, rfl, iteF ?_⟩
  refine ⟨_, rfl, .inl ⟨rfl, _, SqL.of upd_same⟩, p5, toldM j, _, rfl, rfl, upd_same, rfl, rfl, rfl, _, rfl, iteNS (by rw [toldM_count hj]; rfl) ?_⟩
  refine ⟨(by show 10 ≤ sizeLine; decide), fun pn fn => ?_⟩
  have N7 := Same.new (o := .lst (markW.map V.str)) fn
  exact ⟨_, rfl, _, rfl, .inl ⟨rfl, _, SqL.of (N7 _ _ upd_same)⟩, p5, toldM j, _, j, rfl, rfl, N7 _ _ upd_same, rfl, rfl, toldM_hit hj, fun m z hm hz => toldM_no hm hz, pn, _, _, _, rfl, rfl, SqL.of upd_same, markW_at hw, k _ (S6.trans N7)⟩
end
end K21
set_option Elab.async false
set_option linter.all false
set_option maxRecDepth 100000
set_option maxHeartbeats 4000000
namespace K21
open PySem L2 RF
seal L2.PE L2.PA L2.PS L2.PSs L2.PT L2.PG L2.PI L2.PO L2.PEx L2.PSx L2.PSxs L2.PH L2.PW L2.PGs L2.PSet L2.OpR L2.CallR L2.SlR L2.IxR L2.PEp L2.PAp L2.PSp L2.PSsp L2.PTp L2.PSxp L2.PSxsp L2.PExp L2.PEb L2.PAb L2.PSb
section
variable {P : Program} {w : World} {K : PySem.W.Frag} {mg : Str → Option Value} {base : Heap} {cR cA cT cB cW cD cP cU cI cG cX : Addr}
inductive WV (v : V) : Prop
  | int (n : Int) (e : v = .int n) (h : n.natAbs < 10 ^ 60) : WV v
  | str (t : Str) (e : v = .str t) (h : t.length ≤ 100) : WV v
theorem WV.len {v : V} (h : WV v) : (wdV v).length ≤ 100 := by
  cases h with
  | int n e h => subst e; have := tx_len h; show (tx n).length ≤ 100; omega
  | str t e h => subst e; exact h
inductive isp_textof (a b : V) (H : Hp) (Q : VK) (E : XK) : Prop
  | mk (kept spare : List Int) (l : Addr) (vs : List V) (B : Bas H a kept spare) (h1 : b = .ref l) (e : H l = some (.lst vs)) (hv : ∀ v ∈ vs, WV v) (hl : vs.length ≤ 12) (q : ∀ H', Same H H' → Q (.str (figW kept.length spare.length (vs.map wdV))) H') : isp_textof a b H Q E
noncomputable def sp_textof : Sp := Sp2 isp_textof
noncomputable abbrev s__law_text_of : Stmt := top 34
theorem sc__law_text_of : FnScope ["_law_base", "_law_figure", "_law_words", "_law_many", "_law_text"] ["_law_base", "_law_figure"] (defScope s__law_text_of) := ⟨rfl, rfl, rfl, by decide +kernel, rfl, by decide +kernel, by decide +kernel⟩
theorem b__law_text_of : BindsAll "_law_text_of" s__law_text_of ["_law_base", "_law_figure"] := binds2 fun _ _ _ _ _ _ _ _ => rfl
theorem ok_textof (D : Def K mg "_law_text_of" s__law_text_of) (T : Txt K mg cR cA cT cB cW cD cP cU cI cG cX) : FnS P w K mg base "_law_text_of" ["_law_base", "_law_figure"] 1 sp_textof := by
  refine D.ok sc__law_text_of b__law_text_of sp2_len fun f cdv A outer s H vs Q E hr h => ?_
  obtain ⟨_, _, rfl, kept, spare, l, vs, B, rfl, el, hv, hl, q⟩ := h
  refine ⟨_, (pss_cons (ps_setC (i := 2) (lv := 1) (caps := []) (N' := ["_law_one"]) (xe := fun _ _ _ _ _ _ => False) (fun _ _ _ _ _ _ _ _ _ _ _ _ _ z => z.elim) sc__law_text_of.nd rfl (Or.inl rfl) rfl (CompOk.alone rfl (by decide +kernel) (by decide +kernel) rfl) (keep_name (by decide)) (pi_list (pv 1)) (fun _ _ _ _ => pg_name (i := 0) (show (["_law_one"] : List Str).Nodup by decide +kernel) rfl (Or.inl rfl)) (fun _ _ _ _ => (cTy call_str (by rfl) T.str PyProof.Rows.Boot.«str» (ac (pv 0) pa_nil))))
      (pss_cons (ps_set (i := 3) sc__law_text_of.nd rfl (Or.inl rfl) (cBi call0len (by rfl) T.len PyProof.Rows.Boot.«len» (ac (pe_ix ix0T (pv 0) pe_int (fun _ _ => rfl)) pa_nil)))
      (pss_cons (ps_set (i := 4) sc__law_text_of.nd rfl (Or.inl rfl) (pe_bm PySem.F.plainAttrs_str PySem.F.slot_str_join PySem.F.type_str_join mt_join pe_str (ac (pe_slice sl0L (pv 2) po_none (po_some (pv 3))) pa_nil)))
      (pss_cons (ps_if (pt_cmpR op_gt (cBi call0len (by rfl) T.len PyProof.Rows.Boot.«len» (ac (pe_ix ix0T (pv 0) pe_int (fun _ _ => rfl)) pa_nil)) pe_int (nomark _))
        (pss_one (ps_set (i := 4) sc__law_text_of.nd rfl (Or.inl rfl) (pe_op op_add_str (pe_op op_add_str (pv 4) pe_str) (pe_bm PySem.F.plainAttrs_str PySem.F.slot_str_join PySem.F.type_str_join mt_join pe_str (ac (pe_slice sl0L (pv 2) (po_some (pv 3)) po_none) pa_nil)))))
        pss_nil)
      (pss_one (ps_ret (pv 4))))))), ?_⟩
  try (set_option simprocs false in dsimp only [cxOf])
  have s99 : 99999 ≤ sizeLine := by decide
  obtain ⟨⟨t, rfl, BA⟩, gb⟩ := id B
  obtain ⟨t1, t2, e0, e1, e2⟩ := BA.ex
  have k6 := gb.k6; have s4 := gb.s4; have k1 := gb.k1
  refine ⟨_, rfl, l, rfl, ⟨_, SqL.of el⟩, comp_L (K := K) (SqL.of el) (by omega) txV ?_ ?_⟩
  · intro x hx H' Q' S q'
    cases hv x hx with
    | int n e h => subst e; exact ⟨_, rfl, .int n rfl (tx_log h) (q' _ (Same.refl _))⟩
    | str t e h => subst e; exact ⟨_, rfl, .str t rfl (q' _ (Same.refl _))⟩
  intro p1 H2 f2 S2 ep
  rw [wd_map] at ep
  have wl : ∀ t ∈ vs.map wdV, t.length ≤ 100 := fun t ht => by
    obtain ⟨v, hv', rfl⟩ := List.mem_map.mp ht
    exact (hv v hv').len
  have lv : (vs.map wdV).length = vs.length := List.length_map _
  generalize vs.map wdV = ws at *
  refine ⟨_, rfl, t, _, _, _, rfl, rfl, SqT.of (S2 _ _ e0), rfl, t1, _, rfl, .inr (SqT.of (S2 _ _ e1)), ?_⟩
  rw [List.length_map]
  refine ⟨rfl, _, rfl, _, rfl, _, rfl, p1, _, rfl, SqL.of ep, fun p2 f3 => ?_⟩
  have ek : (kept.length : Int).toNat = kept.length := Int.toNat_natCast _
  rw [cut_toW (by omega), ek]
  have N3 := Same.new (o := .lst ((ws.take kept.length).map V.str)) f3
  have S13 := S2.trans N3
  have ep3 := N3 _ _ ep
  refine .mk "." p2 (ws.take kept.length) rfl rfl upd_same (join_ok (by decide) (fun t ht => by have := wl t (List.mem_of_mem_take ht); omega) (by rw [List.length_take]; omega)) ?_
  refine ⟨_, rfl, t, _, _, _, rfl, rfl, SqT.of (S13 _ _ e0), rfl, t2, _, rfl, .inr (SqT.of (S13 _ _ e2)), _, _, rfl, rfl, _, rfl, ?_⟩
  rw [List.length_map]
  by_cases hs : spare.length = 0
  · refine iteFe3 (decide_eq_false (by omega)) ⟨_, rfl, ?_⟩
    have r := q _ S13
    unfold figW at r
    rw [if_pos hs] at r
    exact r
  refine iteTe3 (decide_eq_true (by omega)) ?_
  have d1 := Dj_len (ws := ws.take kept.length) (fun t ht => wl t (List.mem_of_mem_take ht)) (by rw [List.length_take]; omega)
  have d2 := Dj_len (ws := ws.drop kept.length) (fun t ht => wl t (List.mem_of_mem_drop ht)) (by rw [List.length_drop]; omega)
  refine ⟨_, rfl, _, _, rfl, rfl, (by show (Dj _).length + 1 ≤ _; omega), rfl, _, rfl, _, rfl, _, rfl, p1, _, rfl, SqL.of ep3, fun p4 f4 => ?_⟩
  rw [cut_fromW (by omega), ek]
  have N4 := Same.new (o := .lst ((ws.drop kept.length).map V.str)) f4
  refine .mk "." p4 (ws.drop kept.length) rfl rfl upd_same (join_ok (by decide) (fun t ht => by have := wl t (List.mem_of_mem_drop ht); omega) (by rw [List.length_drop]; omega)) ⟨_, _, rfl, rfl, ?_, _, rfl, ?_⟩
  · rw [strLen_append]; show (Dj _).length + 1 + (Dj _).length ≤ _; omega
  · have r := q _ (S13.trans N4)
    unfold figW at r
    rw [if_neg hs] at r
    exact r
end
end K21
set_option Elab.async false
set_option linter.all false
set_option maxRecDepth 100000
set_option maxHeartbeats 2000000
namespace RF
open PySem PySem.NumText L2 Builtin Builtin.Str
theorem cutS_back {z : Str} {m : Nat} (h : m ≤ z.length) (h1 : 1 ≤ m) : (cutS z none (some (-(m : Int)))).cps.toList = z.cps.toList.take (z.length - m) := by
  have e0 : strSliceIndices none (some (-(m : Int))) 1 z.length = strSliceIndices none (some ((z.length - m : Nat) : Int)) 1 z.length := by
    have e1 : (-(m : Int) < 0) := by omega
    have e2 : ¬ (((z.length - m : Nat) : Int) < 0) := by omega
    have e3 : -(m : Int) + (z.length : Int) = ((z.length - m : Nat) : Int) := by omega
    simp only [strSliceIndices, e1, e2, e3, if_true, if_false]
  have e : cutS z none (some (-(m : Int))) = cutS z none (some ((z.length - m : Nat) : Int)) := by unfold cutS; rw [e0]
  rw [e, cutS_to (by omega)]
theorem jl_ne {ws : List Str} (h : ws ≠ []) : (ws.map fun t => t.cps.toList) ≠ [] := fun z => h (List.map_eq_nil_iff.mp z)
theorem figT_map {k s : Nat} {ns : List Int} (hk : 1 ≤ k) (hl : ns.length = k + s) : (figT k s ns).cps.toList.map (swp 58 46) = jl 46 ((ns.map tx).map fun t => t.cps.toList) := figW_map hk (by rw [List.length_map]; exact hl) (txs_no (by decide) ns)
theorem txs_ne {ns : List Int} (h : 1 ≤ ns.length) : ns.map tx ≠ [] := fun z => by rw [List.map_eq_nil_iff.mp z] at h; exact absurd h (by decide)
theorem figT_len {k s : Nat} {ns : List Int} (hk : 1 ≤ k) (hl : ns.length = k + s) (h10 : k + s ≤ 10) (h60 : ∀ n ∈ ns, n.natAbs < 10 ^ 60) : (figT k s ns).length ≤ 620 := by
  have e := congrArg List.length (figT_map (s := s) hk hl)
  rw [List.length_map, ← str_len] at e
  have b := jl_len (c := 46) (B := 61) (xs := (ns.map tx).map fun t => t.cps.toList) fun x hx => by
    obtain ⟨t, ht, rfl⟩ := List.mem_map.mp hx
    obtain ⟨n, hn, rfl⟩ := List.mem_map.mp ht
    have := tx_len (h60 n hn)
    rw [str_len] at this
    exact this
  rw [List.length_map, List.length_map, hl] at b
  have : (k + s) * (61 + 1) ≤ 10 * 62 := Nat.mul_le_mul_right _ h10
  omega
section
variable {k s : Nat} {ds ns : List Int}
theorem sb_more (hk : 1 ≤ k) (hl : ds.length = k + s) (h : Valid ds ns) {y t : Str} {c : Nat} (hc : c = 46 ∨ c = 58) (t46 : 46 ∉ t.cps.toList) (t58 : 58 ∉ t.cps.toList) (hy : y.cps.toList = (figT k s ns).cps.toList ++ c :: t.cps.toList) : ¬ FigOk k s ds y := by
  have nl : ns.length = k + s := by rw [h.len, hl]
  have hne := txs_ne (ns := ns) (by omega)
  have e : dotW y = ns.map tx ++ [t] := by
    refine dotW_of (by simp) (fun u hu => ?_) ?_
    · rcases List.mem_append.mp hu with z | z
      · exact txs_no (by decide) ns u z
      · rw [List.mem_singleton.mp z]; exact t46
    · rw [hy, List.map_append, List.map_cons, figT_map hk nl, swp_free t58, List.map_append, List.map_cons, List.map_nil, jl_app (jl_ne hne) (by simp)]
      have : swp 58 46 c = 46 := by rcases hc with rfl | rfl <;> rfl
      rw [this]; rfl
  exact bad_len (by rw [e, List.length_append, List.length_map, h.len, List.length_singleton]; omega)
theorem sb_front (hk : 1 ≤ k) (hl : ds.length = k + s) (h : Valid ds ns) {y : Str} (hy : y.cps.toList = 58 :: (figT k s ns).cps.toList) : ¬ FigOk k s ds y := by
  have nl : ns.length = k + s := by rw [h.len, hl]
  have hne := txs_ne (ns := ns) (by omega)
  have e : dotW y = ("" : Str) :: ns.map tx := by
    refine dotW_of (by simp) (fun u hu => ?_) ?_
    · rcases List.mem_cons.mp hu with z | z
      · rw [z]; decide
      · exact txs_no (by decide) ns u z
    · rw [hy, List.map_cons, figT_map hk nl, List.map_cons, jl_cons (jl_ne hne)]
      rfl
  exact bad_len (by rw [e, List.length_cons, List.length_map, h.len]; omega)
theorem sb_cut (hk : 1 ≤ k) (hl : ds.length = k + s) (h : Valid ds ns) {ms : List Int} {n : Int} (e : ns = ms ++ [n]) (h1 : 1 ≤ ms.length) {y : Str} (hy : y.cps.toList = (figT k s ns).cps.toList.take ((figT k s ns).length - ((tx n).length + 1))) : ¬ FigOk k s ds y := by
  have nl : ns.length = k + s := by rw [h.len, hl]
  have hne := txs_ne (ns := ms) h1
  have xm := figT_map (s := s) hk nl
  have ej : jl 46 ((ns.map tx).map fun t => t.cps.toList) = jl 46 ((ms.map tx).map fun t => t.cps.toList) ++ 46 :: (tx n).cps.toList := by
    rw [e, List.map_append, List.map_append, List.map_cons, List.map_nil, List.map_cons, List.map_nil, jl_app (jl_ne hne) (by simp)]
    rfl
  have ll := congrArg List.length xm
  rw [ej, List.length_map, ← str_len, List.length_append, List.length_cons, ← str_len] at ll
  have ew : dotW y = ms.map tx := by
    refine dotW_of hne (txs_no (by decide) ms) ?_
    rw [hy, List.map_take, xm, ej]
    exact List.take_left' (by omega)
  exact bad_len (by rw [ew, List.length_map, ← h.len, e, List.length_append, List.length_singleton]; omega)
theorem sb_word (hk : 1 ≤ k) (hl : ds.length = k + s) (h : Valid ds ns) {i : Nat} {u : Str} (hi : i < ns.length) (u46 : 46 ∉ u.cps.toList) (u58 : 58 ∉ u.cps.toList) (hn : isNumB u.cps.toList = false) : ¬ FigOk k s ds (figW k s ((ns.map tx).set i u)) := by
  have nl : ns.length = k + s := by rw [h.len, hl]
  have fr : ∀ {c : Nat}, (c ≠ 45 ∧ ¬ (48 ≤ c ∧ c ≤ 57)) → c ∉ u.cps.toList → ∀ t ∈ (ns.map tx).set i u, c ∉ t.cps.toList := fun {c} hc hu t ht => by
    rcases List.mem_or_eq_of_mem_set ht with z | z
    · exact txs_no hc ns t z
    · rw [z]; exact hu
  have e := figW_words (s := s) (ws := (ns.map tx).set i u) hk (by rw [List.length_set, List.length_map]; exact nl) (fr (by decide) u58) (fr (by decide) u46)
  exact bad_num (by rw [e]; exact List.mem_of_getElem? (List.getElem?_set_self (by rw [List.length_map]; exact hi))) hn
theorem sb_val (hk : 1 ≤ k) (hl : ds.length = k + s) (hd : ∀ d ∈ ds, 2 ≤ d ∧ d ≤ 1000000) (h : Valid ds ns) {i : Nat} {v d : Int} (hi : ds[i]? = some d) (hv : ¬ (0 ≤ v ∧ v < d)) (v60 : v.natAbs < 10 ^ 60) : ¬ FigOk k s ds (figW k s ((ns.set i v).map tx)) := by
  have nl : ns.length = k + s := by rw [h.len, hl]
  have il : i < ns.length := by have := (List.getElem?_eq_some_iff.mp hi).1; rw [h.len]; exact this
  refine bad_val (ms := ns.set i v) (figT_words (s := s) hk (by rw [List.length_set]; exact nl)) (fun n hn => ?_) (fun z => hv (z.rng i d v hi (List.getElem?_set_self il)))
  rcases List.mem_or_eq_of_mem_set hn with z | z
  · exact (valid_60 hd h n z).2
  · rw [z]; exact v60
theorem sb_swap (hk : 1 ≤ k) (hl : ds.length = k + s) (hd : ∀ d ∈ ds, 2 ≤ d ∧ d ≤ 1000000) (h : Valid ds ns) (h2 : 2 ≤ ns.length) {y : Str} (hy : y.cps.toList = ((figT k s ns).cps.toList.map (swp 46 44)).map (swp 58 59)) : ¬ FigOk k s ds y := by
  have nl : ns.length = k + s := by rw [h.len, hl]
  have xm := figT_map (s := s) hk nl
  have m46 : 46 ∈ (figT k s ns).cps.toList.map (swp 58 46) := by
    rw [xm]
    rcases ns with _ | ⟨a, _ | ⟨b, r⟩⟩
    · exact absurd h2 (by decide)
    · exact absurd h2 (by show ¬ 2 ≤ 1; decide)
    · show 46 ∈ (tx a).cps.toList ++ 46 :: _
      exact List.mem_append_right _ List.mem_cons_self
  obtain ⟨c, hc, ec⟩ := List.mem_map.mp m46
  have hc2 : c = 46 ∨ c = 58 := by
    unfold swp at ec
    split at ec
    · right; assumption
    · left; exact ec
  rcases hc2 with rfl | rfl
  · refine bad_char hd (c := 44) ?_ (by decide) (by decide) (by decide)
    rw [hy]
    exact List.mem_map.mpr ⟨44, List.mem_map.mpr ⟨46, hc, rfl⟩, rfl⟩
  · refine bad_char hd (c := 59) ?_ (by decide) (by decide) (by decide)
    rw [hy]
    exact List.mem_map.mpr ⟨58, List.mem_map.mpr ⟨58, hc, rfl⟩, rfl⟩
theorem sb_join (hs : s ≠ 0) : ¬ FigOk k s ds (Dj (ns.map tx)) := by
  refine bad_nocolon hs fun z => ?_
  rw [join_list] at z
  rcases jl_mem z with z | ⟨p, hp, z⟩
  · cases z
  · obtain ⟨t, ht, rfl⟩ := List.mem_map.mp hp
    exact txs_no (by decide) ns t ht z
end
theorem zero_word {n : Int} (h : 0 ≤ n) : isNumB (("0" : Str) ++ tx n).cps.toList = false ∧ 46 ∉ (("0" : Str) ++ tx n).cps.toList ∧ 58 ∉ (("0" : Str) ++ tx n).cps.toList := by
  have e : (("0" : Str) ++ tx n).cps.toList = 48 :: (tx n).cps.toList := by rw [cat_list]; rfl
  have ne : (tx n).cps.toList ≠ [] := by
    have e2 : n = ((n.toNat : Nat) : Int) := by omega
    rw [e2, tx_nat]
    intro z
    have := dg_pos n.toNat
    rw [z] at this
    exact absurd this (by decide)
  rw [e]
  refine ⟨?_, ?_, ?_⟩
  · unfold isNumB
    have e1 : cutM (48 :: (tx n).cps.toList) = 48 :: (tx n).cps.toList := by show (if (48 : Nat) = 45 then (tx n).cps.toList else 48 :: (tx n).cps.toList) = _; rw [if_neg (by decide)]
    rw [e1, decide_eq_false (show ¬ (48 :: (tx n).cps.toList).head? ≠ some 48 from fun z => z rfl), decide_eq_false (show ¬ (48 :: (tx n).cps.toList = [48]) from fun z => ne (by injection z))]
    simp
  · intro z
    rcases List.mem_cons.mp z with z | z
    · cases z
    · exact tx_no (by decide) n z
  · intro z
    rcases List.mem_cons.mp z with z | z
    · cases z
    · exact tx_no (by decide) n z
end RF
set_option Elab.async false
set_option linter.all false
set_option maxRecDepth 100000
set_option maxHeartbeats 4000000
namespace K21
open PySem L2 RF
seal L2.PE L2.PA L2.PS L2.PSs L2.PT L2.PG L2.PI L2.PO L2.PEx L2.PSx L2.PSxs L2.PH L2.PW L2.PGs L2.PSet L2.OpR L2.CallR L2.SlR L2.IxR L2.PEp L2.PAp L2.PSp L2.PSsp L2.PTp L2.PSxp L2.PSxsp L2.PExp L2.PEb L2.PAb L2.PSb
section
variable {P : Program} {w : World} {K : PySem.W.Frag} {mg : Str → Option Value} {base : Heap} {cR cA cT cB cW cD cP cU cI cG cX : Addr}
inductive isp_spoiled (a b c : V) (H : Hp) (Q : VK) (E : XK) : Prop
  | mk (kept spare : List Int) (l : Addr) (ns : List Int) (n : Int) (B : Bas H a kept spare) (h1 : b = .ref l) (e : H l = some (.lst (ns.map V.int))) (hv : Valid (kept ++ spare) ns) (h2 : c = .int n) (n0 : 0 ≤ n)
      (q : ∀ y H', Same H H' → ¬ FigOk kept.length spare.length (kept ++ spare) y → y.length ≤ 1000 → Q (.str y) H') : isp_spoiled a b c H Q E
noncomputable def sp_spoiled : Sp := Sp3 isp_spoiled
theorem ixN_of9 {n : Nat} {i : Int} (h0 : 0 ≤ i) (h1 : i < (n : Int)) : ixN n i = some i.toNat := by unfold ixN; rw [if_pos h0, if_pos h1]
theorem set_wd {ns : List Int} {i : Nat} {u : Str} : ((ns.map V.int).set i (.str u)).map wdV = (ns.map tx).set i u := by rw [List.map_set, wd_ints]; rfl
theorem seti_wd {ns : List Int} {i : Nat} {v : Int} : ((ns.map V.int).set i (.int v)).map wdV = (ns.set i v).map tx := by rw [← List.map_set, wd_ints]
theorem wv_ints {ns : List Int} (h : ∀ n ∈ ns, n.natAbs < 10 ^ 60) : ∀ v ∈ ns.map V.int, WV v := fun v hv => by
  obtain ⟨n, hn, rfl⟩ := List.mem_map.mp hv
  exact .int n rfl (h n hn)
theorem wv_set {vs : List V} {i : Nat} {u : V} (h : ∀ v ∈ vs, WV v) (hu : WV u) : ∀ v ∈ vs.set i u, WV v := fun v hv => by
  rcases List.mem_or_eq_of_mem_set hv with z | z
  · exact h v z
  · rw [z]; exact hu
theorem cut_toI {ns : List Int} {k : Int} (h : 0 ≤ k) : cutV (ns.map V.int) none (some k) = (ns.take k.toNat).map V.int := by
  have e : k = (k.toNat : Int) := by omega
  unfold cutV
  rw [HT.sIx_none, e, HT.sIx_nat, List.drop_zero, Nat.sub_zero, Int.toNat_natCast, List.map_take]
  rcases Nat.le_total k.toNat (ns.map V.int).length with hl | hl
  · rw [Nat.min_eq_left hl]
  · rw [Nat.min_eq_right hl, List.take_length, List.take_of_length_le hl]
theorem figW_len {k s : Nat} {ws : List Str} (h : ∀ t ∈ ws, t.length ≤ 62) (hl : ws.length ≤ 10) : (figW k s ws).length ≤ 900 := by
  have one : ∀ us : List Str, (∀ t ∈ us, t.length ≤ 62) → (Dj us).length ≤ us.length * 63 := fun us hu => by
    have b := jl_len (c := 46) (B := 62) (xs := us.map fun t => t.cps.toList) fun x hx => by
      obtain ⟨t, ht, rfl⟩ := List.mem_map.mp hx
      have := hu t ht
      rw [str_len] at this
      exact this
    rw [str_len, join_list]
    rw [List.length_map] at b
    exact b
  have a1 := one (ws.take k) fun t ht => h t (List.mem_of_mem_take ht)
  have a2 := one (ws.drop k) fun t ht => h t (List.mem_of_mem_drop ht)
  rw [List.length_take] at a1
  rw [List.length_drop] at a2
  unfold figW
  by_cases hs : s = 0
  · rw [if_pos hs]; have : min k ws.length ≤ 10 := by omega
    omega
  · rw [if_neg hs, strLen_append, strLen_append]
    have : (":" : Str).length = 1 := rfl
    omega
noncomputable abbrev s__law_spoiled : Stmt := top 35
theorem sc__law_spoiled : FnScope ["_law_base", "_law_figure", "_law_number", "_law_divisors", "_law_at", "_law_turn", "_law_words", "_law_text", "_law_many"] ["_law_base", "_law_figure", "_law_number"] (defScope s__law_spoiled) := ⟨rfl, rfl, rfl, by decide +kernel, rfl, by decide +kernel, by decide +kernel⟩
theorem b__law_spoiled : BindsAll "_law_spoiled" s__law_spoiled ["_law_base", "_law_figure", "_law_number"] := binds3 fun _ _ _ _ _ _ _ _ _ => rfl
theorem ok_spoiled (D : Def K mg "_law_spoiled" s__law_spoiled) (T : Txt K mg cR cA cT cB cW cD cP cU cI cG cX) (F__law_text_of : FnS P w K mg base "_law_text_of" ["_law_base", "_law_figure"] 1 sp_textof) : FnP P w K mg base "_law_spoiled" ["_law_base", "_law_figure", "_law_number"] 2 sp_spoiled := by
  refine D.okP sc__law_spoiled b__law_spoiled sp3_len fun f cdv A outer s H vs Q E hr h => ?_
  obtain ⟨_, _, _, rfl, kept, spare, l, ns, n, B, rfl, el, hv, rfl, n0, q⟩ := h
  refine ⟨_, (pssp_cons (PS.p (ps_set (i := 3) sc__law_spoiled.nd rfl (Or.inl rfl) (pe_op op0catTP (pe_ix ix0T (pv 0) pe_int (fun _ _ => rfl)) (pe_ix ix0T (pv 0) pe_int (fun _ _ => rfl)))))
      (pssp_cons (PS.p (ps_set (i := 4) sc__law_spoiled.nd rfl (Or.inl rfl) (pe_op op_mod (pv 2) (cBi call0len (by rfl) T.len PyProof.Rows.Boot.«len» (ac (pv 1) pa_nil)))))
      (pssp_cons (PS.p (ps_set (i := 5) sc__law_spoiled.nd rfl (Or.inl rfl) (pe_op op_mod (pe_op op_fdiv (pv 2) pe_int) pe_int)))
      (pssp_cons (PS.p (ps_set (i := 6) sc__law_spoiled.nd rfl (Or.inl rfl) (cTy call0list (by rfl) T.list PyProof.Rows.Boot.«list» (ac (pv 1) pa_nil))))
      (pssp_cons (PS.p (ps_set (i := 7) sc__law_spoiled.nd rfl (Or.inl rfl) (cFn F__law_text_of hr passes0 (ac (pv 0) (ac (pv 1) pa_nil)))))
      (pssp_cons (PS.p (ps_if (pt_cmpR op_eq (pv 5) pe_int (nomark _))
        (pss_cons (ps_asg (pe_op op_add (pe_ix ix0T (pv 3) (pv 4) (fun _ _ => rfl)) (pe_op op_mod (pe_op op_fdiv (pv 2) pe_int) pe_int)) (pg_sub (pv 6) (pv 4) set_list))
        (pss_one (ps_ret (cFn F__law_text_of hr passes0 (ac (pv 0) (ac (pv 6) pa_nil))))))
        pss_nil))
      (pssp_cons (PS.p (ps_if (pt_cmpR op_eq (pv 5) pe_int (nomark _))
        (pss_one (ps_ret (pe_op op_add_str (pv 7) pe_str)))
        pss_nil))
      (pssp_cutF (Gr) (PS.p (ps_if (PW.pt (pw_and (pt_cmpR op_eq (pv 5) pe_int (nomark _)) (pw_and1 (pt_cmpR op_gt (cBi call0len (by rfl) T.len PyProof.Rows.Boot.«len» (ac (pv 1) pa_nil)) pe_int (nomark _)))))
        (pss_one (ps_ret (pe_slice sl_str (pv 7) po_none (po_some (pe_op op_sub (pe_un un_neg (cBi call_len_str (by rfl) T.len PyProof.Rows.Boot.«len» (ac (cTy call_str (by rfl) T.str PyProof.Rows.Boot.«str» (ac (pe_ix ix0L (pv 1) (pe_un un_neg pe_int) (fun _ _ => rfl)) pa_nil)) pa_nil))) pe_int)))))
        pss_nil))
      (pssp_cons (PS.p (ps_if (pt_cmpR op_eq (pv 5) pe_int (nomark _))
        (pss_cons (ps_asg (pe_op op_add_str pe_str (cTy call_str (by rfl) T.str PyProof.Rows.Boot.«str» (ac (pe_ix ix0L (pv 6) (pv 4) (fun _ _ => rfl)) pa_nil))) (pg_sub (pv 6) (pv 4) set_list))
        (pss_one (ps_ret (cFn F__law_text_of hr passes0 (ac (pv 0) (ac (pv 6) pa_nil))))))
        pss_nil))
      (pssp_cons (PS.p (ps_if (pt_cmpR op_eq (pv 5) pe_int (nomark _))
        (pss_cons (ps_asg (pe_op op_add_str pe_str (cTy call_str (by rfl) T.str PyProof.Rows.Boot.«str» (ac (pe_ix ix0L (pv 6) (pv 4) (fun _ _ => rfl)) pa_nil))) (pg_sub (pv 6) (pv 4) set_list))
        (pss_one (ps_ret (cFn F__law_text_of hr passes0 (ac (pv 0) (ac (pv 6) pa_nil))))))
        pss_nil))
      (pssp_cons (PS.p (ps_if (pt_cmpR op_eq (pv 5) pe_int (nomark _))
        (pss_one (ps_ret (pe_ix ix0L (pe_lst (ac (pe_op op_add_str (pv 7) pe_str) (ac (pe_op op_add_str pe_str (pv 7)) (ac (pe_op op_add_str (pv 7) pe_str) (ac pe_str pa_nil))))) (pe_op op_mod (pe_op op_fdiv (pv 2) pe_int) pe_int) (fun _ _ => rfl))))
        pss_nil))
      (pssp_cons (PS.p (ps_if (pt_cmpR op_eq (pv 5) pe_int (nomark _))
        (pss_one (ps_ret (pe_ix ix0L (pe_lst (ac (pe_op op_add_str (pv 7) pe_str) (ac (pe_op op_add_str pe_str (pv 7)) (ac (pe_op op_add_str (pv 7) pe_str) pa_nil)))) (pe_op op_mod (pe_op op_fdiv (pv 2) pe_int) pe_int) (fun _ _ => rfl))))
        pss_nil))
      (pssp_cutF (Gr) (psp_if (PT.p (PW.pt (pw_and (pt_cmpR op_eq (pv 5) pe_int (nomark _)) (pw_and1 (pt_cmpR op_gt (cBi call0len (by rfl) T.len PyProof.Rows.Boot.«len» (ac (pv 1) pa_nil)) pe_int (nomark _))))))
        (pssp_one (psp_ret (pep_repl (pep_repl (PE.p (pv 7))))))
        (PSs.p pss_nil))
      (pssp_cons (PS.p (ps_set (i := 8) sc__law_spoiled.nd rfl (Or.inl rfl) (cBi call0len (by rfl) T.len PyProof.Rows.Boot.«len» (ac (pe_ix ix0T (pv 0) pe_int (fun _ _ => rfl)) pa_nil))))
      (pssp_cons (PS.p (ps_if (pt_cmpR op_gt (cBi call0len (by rfl) T.len PyProof.Rows.Boot.«len» (ac (pe_ix ix0T (pv 0) pe_int (fun _ _ => rfl)) pa_nil)) pe_int (nomark _))
        (pss_one (ps_ret (pe_bm PySem.F.plainAttrs_str PySem.F.slot_str_join PySem.F.type_str_join mt_join pe_str (ac (pe_comp (lv := 1) (caps := []) (N' := ["_law_one"]) rfl (CompOk.alone rfl (by decide +kernel) (by decide +kernel) rfl) (keep_name (by decide)) (pi_list (pv 1)) (fun _ _ _ _ => pg_name (i := 0) (show (["_law_one"] : List Str).Nodup by decide +kernel) rfl (Or.inl rfl)) (fun _ _ _ _ => (cTy call_str (by rfl) T.str PyProof.Rows.Boot.«str» (ac (pv 0) pa_nil)))) pa_nil))))
        pss_nil))
      (pssp_one (PS.p (ps_ret (pe_op op_add_str (pe_op op_add_str (pe_bm PySem.F.plainAttrs_str PySem.F.slot_str_join PySem.F.type_str_join mt_join pe_str (ac (pe_comp (lv := 1) (caps := []) (N' := ["_law_one"]) rfl (CompOk.alone rfl (by decide +kernel) (by decide +kernel) rfl) (keep_name (by decide)) (pi_list (pe_slice sl0L (pv 1) po_none (po_some (pe_op op_sub (pv 8) pe_int)))) (fun _ _ _ _ => pg_name (i := 0) (show (["_law_one"] : List Str).Nodup by decide +kernel) rfl (Or.inl rfl)) (fun _ _ _ _ => (cTy call_str (by rfl) T.str PyProof.Rows.Boot.«str» (ac (pv 0) pa_nil)))) pa_nil)) pe_str) (cTy call_str (by rfl) T.str PyProof.Rows.Boot.«str» (ac (pe_ix ix0L (pv 1) (pe_op op_sub (pv 8) pe_int) (fun _ _ => rfl)) pa_nil))))))))))))))))))))), ?_⟩
  try (set_option simprocs false in dsimp only [cxOf])
  have s99 : 99999 ≤ sizeLine := by decide
  obtain ⟨⟨t, rfl, BA⟩, gb⟩ := id B
  obtain ⟨t1, t2, e0, e1, e2⟩ := BA.ex
  have k6 := gb.k6; have s4 := gb.s4; have k1 := gb.k1
  have hds : (kept ++ spare).length = kept.length + spare.length := List.length_append
  have hd : ∀ d ∈ kept ++ spare, 2 ≤ d ∧ d ≤ 1000000 := fun d hd => gb.rng d hd
  have nl : ns.length = kept.length + spare.length := by rw [hv.len, hds]
  have v60 := valid_60 hd hv
  have n60 : ∀ n ∈ ns, n.natAbs < 10 ^ 60 := fun n hn => (v60 n hn).2
  have lenN : ((ns.map V.int).length : Int) = ns.length := by rw [List.length_map]
  refine ⟨_, rfl, t, _, _, _, rfl, rfl, SqT.of e0, rfl, _, rfl, t, _, _, _, rfl, rfl, SqT.of e0, rfl, .mk t1 t2 _ _ rfl rfl e1 e2 (by rw [List.length_map, List.length_map]; omega) fun pd H1 S1 ed => ?_⟩
  rw [← List.map_append] at ed
  have el1 := S1 _ _ el
  refine ⟨_, rfl, _, rfl, l, _, rfl, .inl (SqL.of el1), _, _, rfl, rfl, (by show (0 : Int) < _; rw [lenN]; omega), ?_⟩
  rw [lenN]
  have b0 : 0 ≤ n % (ns.length : Int) := Int.emod_nonneg _ (by omega)
  have b1 : n % (ns.length : Int) < ns.length := Int.emod_lt_of_pos _ (by omega)
  obtain ⟨i, ei⟩ : ∃ i : Nat, n % (ns.length : Int) = (i : Int) := ⟨(n % (ns.length : Int)).toNat, by omega⟩
  rw [ei] at b0 b1 ⊢
  have hi : i < ns.length := by omega
  obtain ⟨d, hdi⟩ : ∃ d, (kept ++ spare)[i]? = some d := ⟨_, List.getElem?_eq_getElem (by rw [← hv.len]; exact hi)⟩
  obtain ⟨m, hmi⟩ : ∃ m, ns[i]? = some m := ⟨_, List.getElem?_eq_getElem hi⟩
  have dd := hd d (List.mem_of_getElem? hdi)
  have mm := v60 m (List.mem_of_getElem? hmi)
  have hatD : atI ((kept ++ spare).map V.int) (i : Int) = some (.int d) := atI_nat (by rw [List.getElem?_map, hdi]; rfl)
  have hatM : atI (ns.map V.int) (i : Int) = some (.int m) := atI_nat (by rw [List.getElem?_map, hmi]; rfl)
  refine ⟨_, rfl, _, _, rfl, rfl, ⟨by decide, by decide⟩, _, _, rfl, rfl, (by show (0 : Int) < 9; decide), ?_⟩
  refine ⟨_, rfl, .mk l _ rfl (.inl (SqL.of el1)) fun lw fw => ?_⟩
  have N2 := Same.new (o := .lst (ns.map V.int)) fw
  have S2 := S1.trans N2
  refine ⟨_, rfl, _, rfl, _, _, rfl, kept, spare, l, ns.map V.int, B.up S2, rfl, N2 _ _ el1, wv_ints n60, (by rw [List.length_map]; omega), fun H3 S3 => ?_⟩
  rw [wd_ints]
  show (_ : Prop)
  have ew : H3 lw = some (.lst (ns.map V.int)) := S3 _ _ upd_same
  have fw0 : H lw = none := S1.free fw
  have S4 := S2.trans S3
  have el4 := S4 _ _ el
  have ed4 := (N2.trans S3) _ _ ed
  clear N2 S3 S2 fw el1 ed
  have xl : (figT kept.length spare.length ns).length ≤ 620 := figT_len k1 nl (by omega) n60
  have xl' : (figW kept.length spare.length (ns.map tx)).length ≤ 620 := xl
  refine ⟨_, rfl, rfl, _, rfl, ite2 (fun _ => ?_) (fun _ => ?_)⟩
  · refine ⟨_, rfl, _, rfl, pd, _, _, _, rfl, rfl, SqT.of ed4, hatD, _, rfl, _, _, rfl, rfl, ⟨by decide, by decide⟩, _, _, rfl, rfl, (by show (0 : Int) < 3; decide), _, _, rfl, rfl, _, rfl, _, rfl, lw, _, _, _, rfl, rfl, ew, ixN_of9 (by omega) (by rw [List.length_map]; omega), ?_⟩
    have z60 : (d + n / 90 % 3).natAbs < 10 ^ 60 := by
      have e : (2000000 : Nat) ≤ 10 ^ 60 := by decide +kernel
      omega
    rw [Int.toNat_natCast]
    refine ⟨_, rfl, _, rfl, _, _, rfl, kept, spare, lw, (ns.map V.int).set i (.int (d + n / 90 % 3)), B.up (S4.upd fw0), rfl, upd_same, wv_set (wv_ints n60) (.int _ rfl z60), (by rw [List.length_set, List.length_map]; omega), fun H5 S5 => ?_⟩
    rw [seti_wd]
    refine q _ H5 ((S4.upd fw0).trans S5) (sb_val k1 hds hd hv hdi (by omega) z60) (Nat.le_trans (figW_len (fun t ht => ?_) (by rw [List.length_map, List.length_set]; omega)) (by decide))
    obtain ⟨z, hz, rfl⟩ := List.mem_map.mp ht
    rcases List.mem_or_eq_of_mem_set hz with y | y
    · have := tx_len (n60 z y); omega
    · rw [y]; have := tx_len z60; omega
  refine ⟨_, rfl, rfl, _, rfl, ite2 (fun _ => ?_) (fun _ => ?_)⟩
  · refine ⟨_, rfl, _, _, rfl, rfl, (by show _ + 2 ≤ _; omega), q _ H3 S4 (sb_more k1 hds hv (c := 46) (t := "0") (.inl rfl) (by decide) (by decide) (by rw [cat_list]; rfl)) (by rw [strLen_append]; show _ + 2 ≤ 1000; omega)⟩
  refine ⟨fun σ H' => H' = H3 ∧ σ = [some (.ref t), some (.ref l), some (.int n), some (.ref pd), some (.int (i : Int)), some (.int (n / 10 % 9)), some (.ref lw), some (.str (figW kept.length spare.length (ns.map tx))), none], ?_, ?_⟩
  rotate_left
  · refine ⟨_, rfl, rfl, _, rfl, ite2 (fun _ => ?_) (fun _ => iteF ⟨rfl, rfl⟩)⟩
    refine ⟨_, rfl, l, _, rfl, .inl (SqL.of el4), _, _, rfl, rfl, _, rfl, ite2 (fun h2 => ?_) (fun _ => ⟨rfl, rfl⟩)⟩
    have h2 := of_decide_eq_true h2
    rw [lenN] at h2
    have hne : ns ≠ [] := fun z => by rw [z] at hi; exact absurd hi (by simp)
    have es := (List.dropLast_concat_getLast hne).symm
    generalize ns.getLast hne = g at es
    have hg : ns[ns.length - 1]? = some g := by
      rw [es, List.length_append, List.length_singleton, Nat.add_sub_cancel, List.getElem?_concat_length]
    have hatL : atI (ns.map V.int) (-1) = some (.int g) := by
      unfold atI ixN
      rw [List.length_map, if_neg (by decide), if_pos (by omega)]
      have : (-1 + (ns.length : Int)).toNat = ns.length - 1 := by omega
      show (ns.map V.int)[(-1 + (ns.length : Int)).toNat]? = _
      rw [this, List.getElem?_map, hg]; rfl
    have g60 := n60 g (List.mem_of_getElem? hg)
    have gl := tx_len g60
    refine ⟨_, rfl, _, rfl, _, rfl, l, _, _, _, rfl, rfl, SqL.of el4, hatL, .int g rfl (tx_log g60) ⟨tx g, rfl, (by omega), _, rfl, _, _, rfl, rfl, _, rfl, .mk _ rfl (by omega) fun c1 _ => ?_⟩⟩
    have em : -((tx g).length : Int) - 1 = -(((tx g).length + 1 : Nat) : Int) := by omega
    have gx : (tx g).length + 1 ≤ (figT kept.length spare.length ns).length := by
      have xm := congrArg List.length (figT_map (s := spare.length) k1 nl)
      rw [List.length_map, ← str_len] at xm
      have hm1 : 1 ≤ ns.dropLast.length := by rw [List.length_dropLast]; omega
      have : jl 46 ((ns.map tx).map fun t => t.cps.toList) = jl 46 ((ns.dropLast.map tx).map fun t => t.cps.toList) ++ 46 :: (tx g).cps.toList := by
        conv => lhs; rw [es]
        rw [List.map_append, List.map_append, List.map_cons, List.map_nil, List.map_cons, List.map_nil, jl_app (jl_ne (txs_ne hm1)) (by simp)]
        rfl
      rw [this, List.length_append, List.length_cons, ← str_len] at xm
      omega
    refine q _ H3 S4 (sb_cut k1 hds hv es (by rw [List.length_dropLast]; omega) ?_) (by have : (figW kept.length spare.length (ns.map tx)).length ≤ 620 := xl; omega)
    have := cutS_back (z := figT kept.length spare.length ns) gx (by omega)
    rw [← em] at this
    exact this
  rintro _ H3 ⟨rfl, rfl⟩
  have putS : ∀ {u : Str} {Hz : Hp}, u.length ≤ 62 → Hz = upd H3 lw (.lst ((ns.map V.int).set i (.str u))) → ¬ FigOk kept.length spare.length (kept ++ spare) (figW kept.length spare.length ((ns.map tx).set i u)) → sp_textof [.ref t, .ref lw] Hz Q E0 := fun {u Hz} hu e hb => by
    subst e
    refine ⟨_, _, rfl, kept, spare, lw, (ns.map V.int).set i (.str u), B.up (S4.upd fw0), rfl, upd_same, wv_set (wv_ints n60) (.str _ rfl (by omega)), (by rw [List.length_set, List.length_map]; omega), fun H5 S5 => ?_⟩
    rw [set_wd]
    refine q _ H5 ((S4.upd fw0).trans S5) hb (Nat.le_trans (figW_len (fun z hz => ?_) (by rw [List.length_set, List.length_map]; omega)) (by decide))
    rcases List.mem_or_eq_of_mem_set hz with y | y
    · obtain ⟨x, hx, rfl⟩ := List.mem_map.mp y
      have := tx_len (n60 x hx); omega
    · rw [y]; exact hu
  have ml := tx_len mm.2
  refine ⟨_, rfl, rfl, _, rfl, ite2 (fun _ => ?_) (fun _ => ?_)⟩
  · refine ⟨_, rfl, _, rfl, lw, _, _, _, rfl, rfl, SqL.of ew, hatM, .int m rfl (tx_log mm.2) ⟨_, _, rfl, rfl, (by show 1 + (tx m).length ≤ _; omega), _, rfl, _, rfl, lw, _, _, _, rfl, rfl, ew, ixN_of9 (by omega) (by rw [List.length_map]; omega), ?_⟩⟩
    rw [Int.toNat_natCast]
    have zw := zero_word mm.1
    exact ⟨_, rfl, _, rfl, putS (u := ("0" : Str) ++ tx m) (by rw [strLen_append]; show 1 + _ ≤ 62; omega) rfl (sb_word k1 hds hv hi zw.2.1 zw.2.2 zw.1)⟩
  refine ⟨_, rfl, rfl, _, rfl, ite2 (fun _ => ?_) (fun _ => ?_)⟩
  · refine ⟨_, rfl, _, rfl, lw, _, _, _, rfl, rfl, SqL.of ew, hatM, .int m rfl (tx_log mm.2) ⟨_, _, rfl, rfl, (by show 1 + (tx m).length ≤ _; omega), _, rfl, _, rfl, lw, _, _, _, rfl, rfl, ew, ixN_of9 (by omega) (by rw [List.length_map]; omega), ?_⟩⟩
    rw [Int.toNat_natCast]
    refine ⟨_, rfl, _, rfl, putS (u := ("-" : Str) ++ tx m) (by rw [strLen_append]; show 1 + _ ≤ 62; omega) rfl ?_⟩
    by_cases m0 : m = 0
    · subst m0
      exact sb_word k1 hds hv hi (by decide +kernel) (by decide +kernel) (by decide +kernel)
    · have em : ("-" : Str) ++ tx m = tx (-m) := by
        have := tx_minus (n := -m) (by omega)
        rw [Int.neg_neg] at this
        exact this
      rw [em]
      have es : (ns.map tx).set i (tx (-m)) = (ns.set i (-m)).map tx := by rw [List.map_set]
      rw [es]
      exact sb_val k1 hds hd hv hdi (by omega) (by omega)
  refine ⟨_, rfl, rfl, _, rfl, ite2 (fun _ => ?_) (fun _ => ?_)⟩
  · refine ⟨_, rfl, _, _, rfl, rfl, (by show _ + 1 ≤ _; omega), _, rfl, _, _, rfl, rfl, (by show 1 + _ ≤ _; omega), _, rfl, _, _, rfl, rfl, (by show _ + 1 ≤ _; omega), (by show 4 ≤ sizeLine; decide), fun p fp => ?_⟩
    obtain ⟨y, hy, hat⟩ := pickS (ts := [figT kept.length spare.length ns ++ " ", (" " : Str) ++ figT kept.length spare.length ns, figT kept.length spare.length ns ++ "\n", ""]) (i := n / 90 % 4) (by omega) (by show _ < ((4 : Nat) : Int); omega)
    refine ⟨_, rfl, _, _, rfl, rfl, ⟨by decide, by decide⟩, _, _, rfl, rfl, (by show (0 : Int) < 4; decide), p, _, _, _, rfl, rfl, SqL.of upd_same, hat, ?_⟩
    have N := Same.new (o := .lst ([figT kept.length spare.length ns ++ " ", (" " : Str) ++ figT kept.length spare.length ns, figT kept.length spare.length ns ++ "\n", ""].map V.str)) fp
    simp only [List.mem_cons, List.not_mem_nil, or_false] at hy
    have c1 : (" " : Str).length = 1 := rfl
    have c2 : ("\n" : Str).length = 1 := rfl
    rcases hy with rfl | rfl | rfl | rfl
    · exact q _ _ (S4.trans N) (bad_char hd (c := 32) (by rw [cat_list]; exact List.mem_append_right _ (by decide)) (by decide) (by decide) (by decide)) (by rw [strLen_append]; omega)
    · exact q _ _ (S4.trans N) (bad_char hd (c := 32) (by rw [cat_list]; exact List.mem_append_left _ (by decide)) (by decide) (by decide) (by decide)) (by rw [strLen_append]; omega)
    · exact q _ _ (S4.trans N) (bad_char hd (c := 10) (by rw [cat_list]; exact List.mem_append_right _ (by decide)) (by decide) (by decide) (by decide)) (by rw [strLen_append]; omega)
    · exact q _ _ (S4.trans N) bad_empty (by decide)
  refine ⟨_, rfl, rfl, _, rfl, ite2 (fun _ => ?_) (fun _ => ?_)⟩
  · refine ⟨_, rfl, _, _, rfl, rfl, (by show _ + 1 ≤ _; omega), _, rfl, _, _, rfl, rfl, (by show 1 + _ ≤ _; omega), _, rfl, _, _, rfl, rfl, (by show _ + 2 ≤ _; omega), (by show 3 ≤ sizeLine; decide), fun p fp => ?_⟩
    obtain ⟨y, hy, hat⟩ := pickS (ts := [figT kept.length spare.length ns ++ ":", (":" : Str) ++ figT kept.length spare.length ns, figT kept.length spare.length ns ++ ":0"]) (i := n / 90 % 3) (by omega) (by show _ < ((3 : Nat) : Int); omega)
    refine ⟨_, rfl, _, _, rfl, rfl, ⟨by decide, by decide⟩, _, _, rfl, rfl, (by show (0 : Int) < 3; decide), p, _, _, _, rfl, rfl, SqL.of upd_same, hat, ?_⟩
    have N := Same.new (o := .lst ([figT kept.length spare.length ns ++ ":", (":" : Str) ++ figT kept.length spare.length ns, figT kept.length spare.length ns ++ ":0"].map V.str)) fp
    simp only [List.mem_cons, List.not_mem_nil, or_false] at hy
    have c1 : (":" : Str).length = 1 := rfl
    have c2 : (":0" : Str).length = 2 := rfl
    rcases hy with rfl | rfl | rfl
    · exact q _ _ (S4.trans N) (sb_more k1 hds hv (c := 58) (t := "") (.inr rfl) (by decide) (by decide) (by rw [cat_list]; rfl)) (by rw [strLen_append]; omega)
    · exact q _ _ (S4.trans N) (sb_front k1 hds hv (by rw [cat_list]; rfl)) (by rw [strLen_append]; omega)
    · exact q _ _ (S4.trans N) (sb_more k1 hds hv (c := 58) (t := "0") (.inr rfl) (by decide) (by decide) (by rw [cat_list]; rfl)) (by rw [strLen_append]; omega)
  refine ⟨fun σ H' => H' = H3 ∧ σ = [some (.ref t), some (.ref l), some (.int n), some (.ref pd), some (.int (i : Int)), some (.int (n / 10 % 9)), some (.ref lw), some (.str (figW kept.length spare.length (ns.map tx))), none], ?_, ?_⟩
  rotate_left
  · refine ⟨_, rfl, rfl, _, rfl, ite2 (fun _ => ?_) (fun _ => iteF ⟨rfl, rfl⟩)⟩
    refine ⟨_, rfl, l, _, rfl, .inl (SqL.of el4), _, _, rfl, rfl, _, rfl, ite2 (fun h2 => ?_) (fun _ => ⟨rfl, rfl⟩)⟩
    have h2 := of_decide_eq_true h2
    rw [lenN] at h2
    have l1 : (PySem.Txt.replace (figT kept.length spare.length ns) ⟨#[46]⟩ ⟨#[44]⟩).length = (figT kept.length spare.length ns).length := by rw [str_len, rep_map, List.length_map, ← str_len]
    refine ⟨_, rfl, .mk (figT kept.length spare.length ns) rfl (by decide) (by omega) (by decide) (.mk (PySem.Txt.replace (figT kept.length spare.length ns) ⟨#[46]⟩ ⟨#[44]⟩) rfl (by decide) (by omega) (by decide) ?_)⟩
    refine q _ H3 S4 (sb_swap k1 hds hd hv (by omega) (by rw [show PySem.Txt.replace (PySem.Txt.replace (figT kept.length spare.length ns) ⟨#[46]⟩ ⟨#[44]⟩) (":" : Str) (";" : Str) = PySem.Txt.replace (PySem.Txt.replace (figT kept.length spare.length ns) ⟨#[46]⟩ ⟨#[44]⟩) ⟨#[58]⟩ ⟨#[59]⟩ from rfl, rep_map, rep_map])) ?_
    show (PySem.Txt.replace (PySem.Txt.replace (figT kept.length spare.length ns) ⟨#[46]⟩ ⟨#[44]⟩) ⟨#[58]⟩ ⟨#[59]⟩).length ≤ 1000
    rw [str_len, rep_map, List.length_map, ← str_len, l1]; omega
  rintro _ H3 ⟨rfl, rfl⟩
  have e04 := S4 _ _ e0
  have e14 := S4 _ _ e1
  have e24 := S4 _ _ e2
  refine ⟨_, rfl, t, _, _, _, rfl, rfl, SqT.of e04, rfl, t1, _, rfl, .inr (SqT.of e14), ?_⟩
  rw [List.length_map]
  have wl : ∀ t ∈ ns.map tx, t.length ≤ 61 := fun t ht => by
    obtain ⟨z, hz, rfl⟩ := List.mem_map.mp ht
    exact tx_len (n60 z hz)
  have one : ∀ us : List Str, (∀ t ∈ us, t.length ≤ 61) → us.length ≤ 10 → (Dj us).length ≤ 620 := fun us hu hl => by
    have b := jl_len (c := 46) (B := 61) (xs := us.map fun t => t.cps.toList) fun x hx => by
      obtain ⟨t, ht, rfl⟩ := List.mem_map.mp hx
      have := hu t ht
      rw [str_len] at this
      exact this
    rw [str_len, join_list]
    rw [List.length_map] at b
    have : us.length * (61 + 1) ≤ 10 * 62 := Nat.mul_le_mul_right _ hl
    omega
  refine ⟨_, rfl, t, _, _, _, rfl, rfl, SqT.of e04, rfl, t2, _, rfl, .inr (SqT.of e24), _, _, rfl, rfl, _, rfl, ?_⟩
  rw [List.length_map]
  by_cases hs : spare.length = 0
  rotate_left
  · refine iteTe3 (decide_eq_true (by omega)) ⟨rfl, _, rfl, l, rfl, ⟨_, SqL.of el4⟩, comp_L (K := K) (SqL.of el4) (by rw [List.length_map]; omega) txV ?_ ?_⟩
    · intro x hx H' Q' S q'
      obtain ⟨z, hz, rfl⟩ := List.mem_map.mp hx
      exact ⟨_, rfl, .int z rfl (tx_log (n60 z hz)) (q' _ (Same.refl _))⟩
    intro p H5 f5 S5 ep
    rw [wd_map, wd_ints] at ep
    exact .mk "." p (ns.map tx) rfl rfl ep (join_ok (by decide) (fun t ht => by have := wl t ht; omega) (by rw [List.length_map]; omega)) (q _ _ (S4.trans S5) (sb_join hs) (by have := one (ns.map tx) wl (by rw [List.length_map]; omega); show (Dj _).length ≤ 1000; omega))
  refine iteFe3 (decide_eq_false (by omega)) ?_
  have hsn : spare.length = 0 := hs
  refine ⟨rfl, _, rfl, _, rfl, _, _, rfl, rfl, _, rfl, l, _, rfl, SqL.of el4, fun ps fs => ⟨ps, rfl, ⟨_, SqL.of upd_same⟩, ?_⟩⟩
  rw [cut_toI (by omega)]
  have ek : ((kept.length : Int) - 1).toNat = kept.length - 1 := by omega
  rw [ek]
  have N5 := Same.new (o := .lst ((ns.take (kept.length - 1)).map V.int)) fs
  have t60 : ∀ z ∈ ns.take (kept.length - 1), z.natAbs < 10 ^ 60 := fun z hz => n60 z (List.mem_of_mem_take hz)
  refine comp_L (K := K) (SqL.of upd_same) (by rw [List.length_map, List.length_take]; omega) txV ?_ ?_
  · intro x hx H' Q' S q'
    obtain ⟨z, hz, rfl⟩ := List.mem_map.mp hx
    exact ⟨_, rfl, .int z rfl (tx_log (t60 z hz)) (q' _ (Same.refl _))⟩
  intro p H5 f5 S5 ep
  rw [wd_map, wd_ints] at ep
  have wl2 : ∀ t ∈ (ns.take (kept.length - 1)).map tx, t.length ≤ 61 := fun t ht => by
    obtain ⟨z, hz, rfl⟩ := List.mem_map.mp ht
    exact tx_len (t60 z hz)
  have ol := one ((ns.take (kept.length - 1)).map tx) wl2 (by rw [List.length_map, List.length_take]; omega)
  obtain ⟨g, hg⟩ : ∃ g, ns[kept.length - 1]? = some g := ⟨_, List.getElem?_eq_getElem (by omega)⟩
  have hatG : atI (ns.map V.int) ((kept.length : Int) - 1) = some (.int g) := by
    have e : (kept.length : Int) - 1 = ((kept.length - 1 : Nat) : Int) := by omega
    rw [e]; exact atI_nat (by rw [List.getElem?_map, hg]; rfl)
  have g60 := n60 g (List.mem_of_getElem? hg)
  have gl := tx_len g60
  have S6 := (S4.trans N5).trans S5
  have el6 := (N5.trans S5) _ _ el4
  refine .mk "." p ((ns.take (kept.length - 1)).map tx) rfl rfl ep (join_ok (by decide) (fun t ht => by have := wl2 t ht; omega) (by rw [List.length_map, List.length_take]; omega)) ⟨_, _, rfl, rfl, (by show (Dj _).length + 1 ≤ _; omega), _, rfl, _, rfl, _, _, rfl, rfl, l, _, _, _, rfl, rfl, SqL.of el6, hatG, .int g rfl (tx_log g60) ⟨_, _, rfl, rfl, ?_, ?_⟩⟩
  · rw [strLen_append]; show (Dj _).length + 1 + (tx g).length ≤ _; omega
  · refine q _ _ S6 ?_ ?_
    · rw [hsn]
      refine bad_colon hd ?_
      rw [cat_list, cat_list]
      exact List.mem_append_left _ (List.mem_append_right _ (by decide))
    · rw [strLen_append, strLen_append]; show (Dj _).length + 1 + (tx g).length ≤ _; omega
end
end K21
set_option Elab.async false
set_option linter.all false
set_option maxRecDepth 100000
set_option maxHeartbeats 4000000
namespace K21
open PySem L2 RF
seal L2.PE L2.PA L2.PS L2.PSs L2.PT L2.PG L2.PI L2.PO L2.PEx L2.PSx L2.PSxs L2.PH L2.PW L2.PGs L2.PSet L2.OpR L2.CallR L2.SlR L2.IxR L2.PEp L2.PAp L2.PSp L2.PSsp L2.PTp L2.PSxp L2.PSxsp L2.PExp L2.PEb L2.PAb L2.PSb
section
variable {P : Program} {w : World} {K : PySem.W.Frag} {mg : Str → Option Value} {base : Heap} {cR cA cT cB cW cD cP cU cI cG cX : Addr}
structure CM (K : PySem.W.Frag) (cR cA cT cB cW cD cP cU cI cG cX : Addr) : Prop where
  x : IsM K cR cX cA cT cB cW cG cI cD cP cU cX 0
  f : ExcF K cX "row"
  b : IsM K cR cX cA cT cB cW cG cI cD cP cU cB 3
inductive Caught (K : PySem.W.Frag) (cR cX cA cT cB cW cG cI cD cP cU : Addr) (H : Hp) (ea : Addr) (w : Str) : Prop
  | text (d : Addr) (e : ExM K cR cX cA cT cB cW cG cI cD cP cU H ea cX (some d) w) (ed : H d = some (.xd [("row", .int 1)])) : Caught K cR cX cA cT cB cW cG cI cD cP cU H ea w
  | other (c : Addr) (d : Option Addr) (j : Nat) (e : H ea = some (.ext (exPhi ea c d))) (m : IsM K cR cX cA cT cB cW cG cI cD cP cU c j) (j0 : j ≠ 0) (hw : markW[j]? = some w) : Caught K cR cX cA cT cB cW cG cI cD cP cU H ea w
inductive isp_refused (a b c : V) (H : Hp) (Q : VK) (E : XK) : Prop
  | txt (kept spare : List Int) (y : Str) (B : Bas H a kept spare) (h1 : b = .str y) (h2 : c = .non) (hl : y.length ≤ 1000) (bad : ¬ FigOk kept.length spare.length (kept ++ spare) y) (q : ∀ H', Same H H' → Q (.str "text") H') : isp_refused a b c H Q E
  | fig (kept spare : List Int) (l : Addr) (ns : List Int) (B : Bas H a kept spare) (h2 : c = .ref l) (e : H l = some (.lst (ns.map V.int))) (n60 : ∀ n ∈ ns, n.natAbs < 10 ^ 60) (bad : ¬ Valid (kept ++ spare) ns) (q : ∀ H', Same H H' → Q (.str "figure") H') : isp_refused a b c H Q E
noncomputable def sp_refused : Sp := Sp3 isp_refused
noncomputable abbrev s__law_refused : Stmt := top 36
theorem sc__law_refused : FnScope ["_law_base", "_law_text", "_law_figure", "_law_kept", "e"] ["_law_base", "_law_text", "_law_figure"] (defScope s__law_refused) := ⟨rfl, rfl, rfl, by decide +kernel, rfl, by decide +kernel, by decide +kernel⟩
theorem b__law_refused : BindsAll "_law_refused" s__law_refused ["_law_base", "_law_text", "_law_figure"] := binds3 fun _ _ _ _ _ _ _ _ _ => rfl
theorem ok_refused (D : Def K mg "_law_refused" s__law_refused) (T : Txt K mg cR cA cT cB cW cD cP cU cI cG cX) (C : CM K cR cA cT cB cW cD cP cU cI cG cX) (F_figure_from : FnP P w K mg base "figure_from" ["base", "text"] 5 (sp_ffrom cX)) (F_figure_text : FnS P w K mg base "figure_text" ["base", "figure"] 4 (sp_ftext cB)) (F__law_whole : FnS P w K mg base "_law_whole" ["_law_found"] 1 sp_whole) (F__law_marks : FnS P w K mg base "_law_marks" ["_law_error"] 1 (sp_marks K cR cX cA cT cB cW cG cI cD cP cU)) : FnP P w K mg base "_law_refused" ["_law_base", "_law_text", "_law_figure"] 6 sp_refused := by
  refine D.okP sc__law_refused b__law_refused sp3_len fun f cdv A outer s H vs Q E hr h => ?_
  obtain ⟨a, b, c, rfl, h⟩ := h
  refine ⟨_, (pssp_cons (PS.p (ps_set (i := 3) sc__law_refused.nd rfl (Or.inl rfl) pe_non))
      (pssp_cutF (Gr) (psp_try own_cx (psxsp_one (psxp_if (pt_cmpR op_isN (pv 2) pe_non (nomark _))
        (psxsp_one (psxp_expr (pexp_fn own_cx F_figure_from hr (ac (pv 0) (ac (pv 1) pa_nil)))))
        (PSxs.p (psxs_one (psx_expr (xFn own_cx F_figure_text hr (ac (pv 0) (ac (pv 2) pa_nil))))))))
        (ph_as (i := 4) own_cx T.RestError sc__law_refused.nd rfl rfl (fun _ => (pss_one (ps_set (i := 3) sc__law_refused.nd rfl (Or.inl rfl) (pv 4)))) ph_nil))
      (pssp_cons (PS.p (ps_if (pt_cmpR op_isN (pv 3) pe_non (nomark _))
        (pss_one (ps_ret pe_str))
        pss_nil))
      (pssp_cons (PS.p (ps_if (PW.pt (pw_and (pt_val (cBi call_isiE (by rfl) T.isinstance PyProof.Rows.Boot.«isinstance» (ac (pv 3) (ac (pe_glob (v := .ref _) rfl T.BadText rfl) pa_nil)))) (pw_and1 (PW.pt (pw_or (pt_not (pt_val (cFn F__law_whole hr passes0 (ac (pe_exf (pv 3)) pa_nil)))) (pw_or1 (pt_cmpR op_ne (pe_exf (pv 3)) pe_int (nomark _))))))))
        (pss_one (ps_ret pe_str))
        pss_nil))
      (pssp_one (PS.p (ps_ret (cFn F__law_marks hr passes0 (ac (pv 3) pa_nil))))))))), ?_⟩
  try (set_option simprocs false in dsimp only [cxOf])
  refine ⟨fun σ H' => ∃ (wd : Str) (ea : Addr), (∀ H'', Same H H'' → Q (.str wd) H'') ∧ Same H H' ∧ σ = [some a, some b, some c, some (.ref ea), none] ∧ Caught K cR cX cA cT cB cW cG cI cD cP cU H' ea wd, ?_, ?_⟩
  · rintro _ H' ⟨wd, ea, q, S, rfl, h⟩
    refine ⟨_, rfl, rfl, _, rfl, iteFe3 (decide_eq_false (fun z => nomatch z)) ?_⟩
    cases h with
    | text d e ed =>
      obtain ⟨ee, j, M, hw⟩ := id e
      refine ⟨_, rfl, ea, cX, some d, _, _, _, rfl, .inr ⟨_, rfl, rfl⟩, ee, C.x.g, C.x.k0, _, rfl, iteT ?_⟩
      refine ⟨_, rfl, ea, cX, d, _, .int 1, rfl, ee, ed, C.f, rfl, _, rfl, 1, rfl, _, rfl, iteF ?_⟩
      refine ⟨_, rfl, ea, cX, d, _, .int 1, rfl, ee, ed, C.f, rfl, rfl, _, rfl, iteF ?_⟩
      exact ⟨_, rfl, _, rfl, ea, cX, some d, wd, rfl, e, fun H2 S2 => q H2 (S.trans S2)⟩
    | other c0 d j e M j0 hw =>
      refine ⟨_, rfl, ea, c0, d, _, _, _, rfl, .inr ⟨_, rfl, rfl⟩, e, M.g, M.k0, _, rfl, iteFe3 (decide_eq_false j0) ?_⟩
      refine iteF ?_
      exact ⟨_, rfl, _, rfl, ea, c0, d, wd, rfl, ⟨e, j, M, hw⟩, fun H2 S2 => q H2 (S.trans S2)⟩
  · cases h with
    | txt kept spare y B h1 h2 hl bad q =>
      subst h1 h2
      refine ⟨_, rfl, rfl, _, rfl, iteTe3 (decide_eq_true rfl) ⟨_, rfl, _, rfl, _, _, rfl, kept, spare, y, B, rfl, hl, fun ok => absurd ok bad, fun _ d H' S ed => ?_⟩⟩
      exact .inl ⟨C.x.r, _, rfl, fun ea hea => ⟨_, rfl, _, ea, q, S.trans (Same.new hea), rfl, .text d ⟨upd_same, 0, C.x, rfl⟩ (Same.new hea _ _ ed)⟩⟩
    | fig kept spare l ns B h2 e n60 bad q =>
      subst h2
      refine ⟨_, rfl, rfl, _, rfl, iteFe3 (decide_eq_false (fun z => nomatch z)) ⟨_, rfl, _, rfl, _, _, rfl, kept, spare, l, ns, B, rfl, e, n60, fun ok => absurd ok bad, fun _ H' S => ?_⟩⟩
      exact .inl ⟨C.b.r, _, rfl, fun ea hea => ⟨_, rfl, _, ea, q, S.trans (Same.new hea), rfl, .other cB none 3 upd_same C.b (by decide) rfl⟩⟩
end
end K21
set_option Elab.async false
set_option linter.all false
set_option maxRecDepth 100000
set_option maxHeartbeats 4000000
namespace K21
open PySem L2 RF
seal L2.PE L2.PA L2.PS L2.PSs L2.PT L2.PG L2.PI L2.PO L2.PEx L2.PSx L2.PSxs L2.PH L2.PW L2.PGs L2.PSet L2.OpR L2.CallR L2.SlR L2.IxR L2.PEp L2.PAp L2.PSp L2.PSsp L2.PTp L2.PSxp L2.PSxsp L2.PExp L2.PEb L2.PAb L2.PSb
section
variable {P : Program} {w : World} {K : PySem.W.Frag} {mg : Str → Option Value} {base : Heap} {cR cA cT cB cW cD cP cU cI cG cX : Addr}
theorem kit_ss (K : PySem.W.Frag) : PySem.W.kitOne K (.type "str") (.type "str") = some true := by kernel_rfl
theorem eqv_ints9 : ∀ a : List Int, PyData.eqvAll (a.map PyData.int) (a.map PyData.int) = true
  | [] => rfl
  | x :: xs => by simp [PyData.eqvAll, PyData.eqv, eqv_ints9 xs]
inductive isp_right (a b c : V) (H : Hp) (Q : VK) (E : XK) : Prop
  | mk (kept spare : List Int) (l : Addr) (ns : List Int) (n : Int) (B : Bas H a kept spare) (h1 : b = .ref l) (e : H l = some (.lst (ns.map V.int))) (hv : Valid (kept ++ spare) ns) (h2 : c = .int n) (n0 : 0 ≤ n) (q : ∀ H', Same H H' → Q (.bl true) H') : isp_right a b c H Q E
noncomputable def sp_right : Sp := Sp3 isp_right
noncomputable abbrev s__law_right : Stmt := top 37
theorem sc__law_right : FnScope ["_law_base", "_law_figure", "_law_number", "_law_text", "_law_handed", "_law_told", "_law_turn", "_law_found", "_law_spoiled_here", "_law_divisors", "_law_at", "_law_bad"] ["_law_base", "_law_figure", "_law_number"] (defScope s__law_right) := ⟨rfl, rfl, rfl, by decide +kernel, rfl, by decide +kernel, by decide +kernel⟩
theorem b__law_right : BindsAll "_law_right" s__law_right ["_law_base", "_law_figure", "_law_number"] := binds3 fun _ _ _ _ _ _ _ _ _ => rfl
theorem ok_right (D : Def K mg "_law_right" s__law_right) (T : Txt K mg cR cA cT cB cW cD cP cU cI cG cX) (F__law_text_of : FnS P w K mg base "_law_text_of" ["_law_base", "_law_figure"] 1 sp_textof) (F_figure_text : FnS P w K mg base "figure_text" ["base", "figure"] 4 (sp_ftext cB)) (F_figure_from : FnP P w K mg base "figure_from" ["base", "text"] 5 (sp_ffrom cX)) (F__law_wholes : FnS P w K mg base "_law_wholes" ["_law_found", "_law_due"] 2 sp_numbers) (F__law_spoiled : FnP P w K mg base "_law_spoiled" ["_law_base", "_law_figure", "_law_number"] 2 sp_spoiled) (F__law_refused : FnP P w K mg base "_law_refused" ["_law_base", "_law_text", "_law_figure"] 6 sp_refused) : FnP P w K mg base "_law_right" ["_law_base", "_law_figure", "_law_number"] 7 sp_right := by
  refine D.okP sc__law_right b__law_right sp3_len fun f cdv A outer s H vs Q E hr h => ?_
  obtain ⟨_, _, _, rfl, kept, spare, l, ns, n, B, rfl, el, hv, rfl, n0, q⟩ := h
  refine ⟨_, (pssp_cons (PS.p (ps_set (i := 3) sc__law_right.nd rfl (Or.inl rfl) (cFn F__law_text_of hr passes0 (ac (pv 0) (ac (pv 1) pa_nil)))))
      (pssp_cons (PS.p (ps_set (i := 4) sc__law_right.nd rfl (Or.inl rfl) (cTy call0list (by rfl) T.list PyProof.Rows.Boot.«list» (ac (pv 1) pa_nil))))
      (pssp_cons (PS.p (ps_set (i := 5) sc__law_right.nd rfl (Or.inl rfl) (cFn F_figure_text hr passes1 (ac (pv 0) (ac (pv 4) pa_nil)))))
      (pssp_cons (PS.p (ps_if (PW.pt (pw_or (pt_not (pt_val (cBi call_isi (by rfl) T.isinstance PyProof.Rows.Boot.«isinstance» (ac (pv 5) (ac (pe_ty rfl T.str PyProof.Rows.Boot.«str») pa_nil))))) (pw_or (pt_cmpR op_ne (pv 5) (pv 3) (nomark _)) (pw_or1 (pt_cmpR (op_neDK K hr.units) (pv 4) (pv 1) (nomark _))))))
        (pss_one (ps_ret pe_bl))
        pss_nil))
      (pssp_cons (psp_for own_pass rfl (pi_range1 rfl T.range (ac pe_int pa_nil)) (pg_name (i := 6) sc__law_right.nd rfl (Or.inl rfl))
        (pssp_cons (psp_set (i := 7) sc__law_right.nd rfl (Or.inl rfl) (pep_fn F_figure_from hr passes1 (PA.p (ac (pv 0) (ac (pv 3) pa_nil)))))
        (pssp_cons (PS.p (ps_if (pt_not (pt_val (cFn F__law_wholes hr passes0 (ac (pv 7) (ac (pv 1) pa_nil)))))
          (pss_one (ps_ret pe_bl))
          pss_nil))
        (pssp_one (PS.p (ps_expr (pe_bm PySem.F.plainAttrs_list PySem.F.slot_list_append PySem.F.type_list_append mt_append (pv 7) (ac pe_int pa_nil))))))))
      (pssp_cons (psp_set (i := 8) sc__law_right.nd rfl (Or.inl rfl) (pep_fn F__law_spoiled hr passes0 (PA.p (ac (pv 0) (ac (pv 1) (ac (pv 2) pa_nil))))))
      (pssp_cons (psp_if (ptp_cmpR op_ne (pep_fn F__law_refused hr passes0 (PA.p (ac (pv 0) (ac (pv 8) (ac pe_non pa_nil))))) pe_str (nomark _))
        (PSs.p (pss_one (ps_ret pe_bl)))
        (PSs.p pss_nil))
      (pssp_cons (PS.p (ps_set (i := 9) sc__law_right.nd rfl (Or.inl rfl) (pe_op op0catTP (pe_ix ix0T (pv 0) pe_int (fun _ _ => rfl)) (pe_ix ix0T (pv 0) pe_int (fun _ _ => rfl)))))
      (pssp_cons (PS.p (ps_set (i := 10) sc__law_right.nd rfl (Or.inl rfl) (pe_op op_mod (pv 2) (cBi call0len (by rfl) T.len PyProof.Rows.Boot.«len» (ac (pv 1) pa_nil)))))
      (pssp_cons (PS.p (ps_set (i := 11) sc__law_right.nd rfl (Or.inl rfl) (pe_lst (ac (pe_op op0catS (pv 1) (pe_lst (ac pe_int pa_nil))) (ac (pe_slice sl0L (pv 1) po_none (po_some (pe_un un_neg pe_int))) (ac (pe_op op0catS (pe_op op0catS (pe_slice sl0L (pv 1) po_none (po_some (pv 10))) (pe_lst (ac (pe_ix ix0T (pv 9) (pv 10) (fun _ _ => rfl)) pa_nil))) (pe_slice sl0L (pv 1) (po_some (pe_op op_add (pv 10) pe_int)) po_none)) pa_nil))))))
      (pssp_cons (PS.p (ps_expr (pe_bm PySem.F.plainAttrs_list PySem.F.slot_list_append PySem.F.type_list_append mt_append (pv 11) (ac (pe_op op0catS (pe_op op0catS (pe_slice sl0L (pv 1) po_none (po_some (pv 10))) (pe_lst (ac (pe_un un_neg pe_int) pa_nil))) (pe_slice sl0L (pv 1) (po_some (pe_op op_add (pv 10) pe_int)) po_none)) pa_nil))))
      (pssp_one (psp_ret (pep_cmpR op_eq (pep_fn F__law_refused hr passes0 (PA.p (ac (pv 0) (ac pe_str (ac (pe_ix ix0L (pv 11) (pe_op op_mod (pe_op op_fdiv (pv 2) pe_int) pe_int) (fun _ _ => rfl)) pa_nil))))) pe_str (nomark _))))))))))))))), ?_⟩
  try (set_option simprocs false in dsimp only [cxOf])
  have s99 : 99999 ≤ sizeLine := by decide
  obtain ⟨⟨t, rfl, BA⟩, gb⟩ := id B
  obtain ⟨t1, t2, e0, e1, e2⟩ := BA.ex
  have k6 := gb.k6; have s4 := gb.s4; have k1 := gb.k1
  have hds : (kept ++ spare).length = kept.length + spare.length := List.length_append
  have hd : ∀ d ∈ kept ++ spare, 2 ≤ d ∧ d ≤ 1000000 := fun d hd => gb.rng d hd
  have nl : ns.length = kept.length + spare.length := by rw [hv.len, hds]
  have v60 := valid_60 hd hv
  have n60 : ∀ n ∈ ns, n.natAbs < 10 ^ 60 := fun n hn => (v60 n hn).2
  have lenN : ((ns.map V.int).length : Int) = ns.length := by rw [List.length_map]
  have xl : (figT kept.length spare.length ns).length ≤ 620 := figT_len k1 nl (by omega) n60
  obtain ⟨fok, fval⟩ := figT_ok k1 hds hd hv
  refine ⟨_, rfl, _, rfl, _, _, rfl, kept, spare, l, ns.map V.int, B, rfl, el, wv_ints n60, (by rw [List.length_map]; omega), fun H1 S1 => ?_⟩
  rw [wd_ints]
  have el1 := S1 _ _ el
  refine ⟨_, rfl, .mk l _ rfl (.inl (SqL.of el1)) fun lh fh => ?_⟩
  have N2 := Same.new (o := .lst (ns.map V.int)) fh
  have S2 := S1.trans N2
  refine ⟨_, rfl, _, rfl, _, _, rfl, kept, spare, lh, ns, B.up S2, rfl, upd_same, n60, fun _ H3 S3 => ?_, fun hb => absurd hv hb⟩
  have S13 := S2.trans S3
  have eh3 := S3 _ _ (upd_same (H := H1) (a := lh) (o := .lst (ns.map V.int)))
  have el3 := S13 _ _ el
  refine ⟨_, rfl, _, _, _, _, rfl, TyOf.str _, kit_ss K, _, rfl, iteF ⟨_, rfl, _, rfl, rfl, _, rfl, iteFe3 (by show (!decide (V.str (figT kept.length spare.length ns) = V.str (figT kept.length spare.length ns))) = false; rw [decide_eq_true rfl]; rfl) ⟨_, rfl, _, rfl, .mk _ _ (rdL eh3) (rdL el3) (shaped_ints _) (shaped_ints _) ?_⟩⟩⟩
  have eqv : PyData.eqv (.list (ns.map PyData.int)) (.list (ns.map PyData.int)) = true := by simp only [PyData.eqv]; exact eqv_ints9 ns
  rw [eqv]
  refine ⟨_, rfl, iteF ?_⟩
  refine ⟨_, rfl, by decide, by decide, for_range (fun i σ H' => Same H H' ∧ ∃ y6 y7 : Option V, σ = [some (.ref t), some (.ref l), some (.int n), some (.str (figT kept.length spare.length ns)), some (.ref lh), some (.str (figT kept.length spare.length ns)), y6, y7, none, none, none, none]) ⟨S13, none, none, rfl⟩ ?_ ?_⟩
  · rintro i σ H4 hi ⟨S4, y6, y7, rfl⟩
    refine ⟨_, rfl, _, rfl, _, _, rfl, kept, spare, figT kept.length spare.length ns, B.up S4, rfl, by omega, fun _ lf H5 S5 f5 e5 => ?_, fun nb => absurd fok nb⟩
    rw [fval] at e5
    have S45 := S4.trans S5
    refine ⟨_, rfl, _, rfl, _, _, rfl, lf, l, ns, rfl, rfl, e5, S45 _ _ el, by omega, fun H6 S6 => ⟨_, rfl, iteF ?_⟩⟩
    have e6 := S6 _ _ e5
    refine ⟨_, rfl, .inl ⟨rfl, _, SqL.of e6⟩, lf, _, _, rfl, rfl, e6, (by rw [List.length_map]; omega), ?_⟩
    exact ⟨(S45.trans S6).upd (S4.free f5), _, _, rfl⟩
  rintro σ H4 ⟨S4, y6, y7, rfl⟩
  have el4 := S4 _ _ el
  refine ⟨_, rfl, _, rfl, _, rfl, _, _, _, rfl, kept, spare, l, ns, n, B.up S4, rfl, el4, hv, rfl, n0, fun y H5 S5 nb yl => ?_⟩
  have S45 := S4.trans S5
  refine ⟨_, rfl, _, rfl, _, _, _, rfl, .txt kept spare y (B.up S45) rfl rfl yl nb fun H6 S6 => ⟨rfl, _, rfl, iteFe3 (by rw [decide_eq_true rfl]; rfl) ?_⟩⟩
  have S46 := S45.trans S6
  refine ⟨_, rfl, t, _, _, _, rfl, rfl, SqT.of (S46 _ _ e0), rfl, _, rfl, t, _, _, _, rfl, rfl, SqT.of (S46 _ _ e0), rfl, .mk t1 t2 _ _ rfl rfl (S46 _ _ e1) (S46 _ _ e2) (by rw [List.length_map, List.length_map]; omega) fun pd H7 S7 ed => ?_⟩
  rw [← List.map_append] at ed
  have S47 := S46.trans S7
  have el7 := S47 _ _ el
  refine ⟨_, rfl, _, rfl, l, _, rfl, .inl (SqL.of el7), _, _, rfl, rfl, (by show (0 : Int) < _; rw [lenN]; omega), ?_⟩
  rw [lenN]
  have b0 : 0 ≤ n % (ns.length : Int) := Int.emod_nonneg _ (by omega)
  have b1 : n % (ns.length : Int) < ns.length := Int.emod_lt_of_pos _ (by omega)
  obtain ⟨i, ei⟩ : ∃ i : Nat, n % (ns.length : Int) = (i : Int) := ⟨(n % (ns.length : Int)).toNat, by omega⟩
  rw [ei] at b0 b1 ⊢
  have hi : i < ns.length := by omega
  obtain ⟨d, hdi⟩ : ∃ d, (kept ++ spare)[i]? = some d := ⟨_, List.getElem?_eq_getElem (by rw [← hv.len]; exact hi)⟩
  have dd := hd d (List.mem_of_getElem? hdi)
  have hatD : atI ((kept ++ spare).map V.int) (i : Int) = some (.int d) := atI_nat (by rw [List.getElem?_map, hdi]; rfl)
  have ek1 : (i : Int).toNat = i := Int.toNat_natCast _
  have ek2 : ((i : Int) + 1).toNat = i + 1 := by omega
  refine ⟨_, rfl, (by show 1 ≤ sizeLine; decide), fun p1 f1 => ?_⟩
  have A1 := Same.new (o := .lst [V.int 0]) f1
  refine ⟨l, p1, _, _, rfl, rfl, SqL.of (A1 _ _ el7), SqL.of upd_same, (by rw [List.length_map]; show _ + 1 ≤ _; omega), fun q1 g1 => ?_⟩
  have c1 : ns.map V.int ++ [V.int 0] = (ns ++ [0]).map V.int := by rw [List.map_append]; rfl
  rw [c1]
  have A2 := A1.trans (Same.new (o := .lst ((ns ++ [0]).map V.int)) g1)
  have r1 : upd (upd H7 p1 (.lst [V.int 0])) q1 (.lst ((ns ++ [0]).map V.int)) q1 = some (.lst ((ns ++ [0]).map V.int)) := upd_same
  revert A2 r1
  generalize upd (upd H7 p1 (.lst [V.int 0])) q1 (.lst ((ns ++ [0]).map V.int)) = G1
  intro A2 r1
  refine ⟨_, rfl, _, rfl, _, rfl, l, _, rfl, SqL.of (A2 _ _ el7), fun q2 g2 => ?_⟩
  rw [cut_last (by omega)]
  have A3' := Same.new (o := .lst ((ns.take (ns.length - 1)).map V.int)) g2
  have A3 := A2.trans A3'
  have r1 := A3' _ _ r1
  have r2 : upd G1 q2 (.lst ((ns.take (ns.length - 1)).map V.int)) q2 = some (.lst ((ns.take (ns.length - 1)).map V.int)) := upd_same
  revert A3 r1 r2
  generalize upd G1 q2 (.lst ((ns.take (ns.length - 1)).map V.int)) = G2
  intro A3 r1 r2
  clear A3' A2 A1 g1 g2 f1
  refine ⟨_, rfl, _, rfl, _, rfl, l, _, rfl, SqL.of (A3 _ _ el7), fun q3 g3 => ?_⟩
  rw [cut_to (by omega), ek1]
  have A4 := Same.new (o := .lst ((ns.take i).map V.int)) g3
  refine ⟨_, rfl, _, rfl, pd, _, _, _, rfl, rfl, SqT.of ((A3.trans A4) _ _ ed), hatD, (by show 1 ≤ sizeLine; decide), fun q4 g4 => ?_⟩
  have A5 := Same.new (o := .lst [V.int d]) g4
  refine ⟨q3, q4, _, _, rfl, rfl, SqL.of (A5 _ _ upd_same), SqL.of upd_same, (by rw [List.length_map, List.length_take]; show _ + 1 ≤ _; omega), fun q5 g5 => ?_⟩
  have c2 : (ns.take i).map V.int ++ [V.int d] = (ns.take i ++ [d]).map V.int := by rw [List.map_append]; rfl
  rw [c2]
  have A6 := Same.new (o := .lst ((ns.take i ++ [d]).map V.int)) g5
  refine ⟨_, rfl, _, rfl, _, _, rfl, rfl, _, rfl, l, _, rfl, SqL.of ((((A3.trans A4).trans A5).trans A6) _ _ el7), fun q6 g6 => ?_⟩
  rw [cut_from (by omega), ek2]
  have A7 := Same.new (o := .lst ((ns.drop (i + 1)).map V.int)) g6
  refine ⟨q5, q6, _, _, rfl, rfl, SqL.of (A7 _ _ upd_same), SqL.of upd_same, (by rw [List.length_map, List.length_map, List.length_append, List.length_take, List.length_drop]; show _ + 1 + _ ≤ _; omega), fun q7 g7 => ?_⟩
  rw [← List.map_append, set_cut hi]
  have A8 := Same.new (o := .lst ((ns.set i d).map V.int)) g7
  have r3 := upd_same (H := upd (upd (upd (upd G2 q3 (.lst ((ns.take i).map V.int))) q4 (.lst [V.int d])) q5 (.lst ((ns.take i ++ [d]).map V.int))) q6 (.lst ((ns.drop (i + 1)).map V.int))) (a := q7) (o := .lst ((ns.set i d).map V.int))
  have A48 := ((A4.trans A5).trans (A6.trans A7)).trans A8
  have r1 := A48 _ _ r1
  have r2 := A48 _ _ r2
  have A9 := A3.trans A48
  revert A9 r1 r2 r3
  generalize upd (upd (upd (upd (upd G2 q3 (.lst ((ns.take i).map V.int))) q4 (.lst [V.int d])) q5 (.lst ((ns.take i ++ [d]).map V.int))) q6 (.lst ((ns.drop (i + 1)).map V.int))) q7 (.lst ((ns.set i d).map V.int)) = G3
  intro r3 r1 r2 A9
  clear A4 A5 A6 A7 A8 A48 g3 g4 g5 g6 g7 A3
  refine ⟨(by show 3 ≤ sizeLine; decide), fun lb fb => ?_⟩
  have fb7 : H7 lb = none := A9.free fb
  have B1 := Same.new (o := .lst [.ref q1, .ref q2, .ref q7]) fb
  have r1 := B1 _ _ r1
  have r2 := B1 _ _ r2
  have r3 := B1 _ _ r3
  have A10 := A9.trans B1
  have eb : upd G3 lb (.lst [.ref q1, .ref q2, .ref q7]) lb = some (.lst [.ref q1, .ref q2, .ref q7]) := upd_same
  revert A10 r1 r2 r3 eb
  generalize upd G3 lb (.lst [.ref q1, .ref q2, .ref q7]) = G4
  intro r1 r2 r3 A10 eb
  clear B1 A9
  refine ⟨_, rfl, .inl ⟨rfl, _, SqL.of eb⟩, ?_⟩
  refine ⟨_, rfl, _, rfl, _, rfl, l, _, rfl, SqL.of (A10 _ _ el7), fun q3 g3 => ?_⟩
  rw [cut_to (by omega), ek1]
  have A4 := Same.new (o := .lst ((ns.take i).map V.int)) g3
  refine ⟨_, rfl, (by show 1 ≤ sizeLine; decide), fun q4 g4 => ?_⟩
  have A5 := Same.new (o := .lst [V.int (-1)]) g4
  refine ⟨q3, q4, _, _, rfl, rfl, SqL.of (A5 _ _ upd_same), SqL.of upd_same, (by rw [List.length_map, List.length_take]; show _ + 1 ≤ _; omega), fun q5 g5 => ?_⟩
  have c3 : (ns.take i).map V.int ++ [V.int (-1)] = (ns.take i ++ [-1]).map V.int := by rw [List.map_append]; rfl
  rw [c3]
  have A6 := Same.new (o := .lst ((ns.take i ++ [-1]).map V.int)) g5
  refine ⟨_, rfl, _, rfl, _, _, rfl, rfl, _, rfl, l, _, rfl, SqL.of ((((A10.trans A4).trans A5).trans A6) _ _ el7), fun q6 g6 => ?_⟩
  rw [cut_from (by omega), ek2]
  have A7 := Same.new (o := .lst ((ns.drop (i + 1)).map V.int)) g6
  refine ⟨q5, q6, _, _, rfl, rfl, SqL.of (A7 _ _ upd_same), SqL.of upd_same, (by rw [List.length_map, List.length_map, List.length_append, List.length_take, List.length_drop]; show _ + 1 + _ ≤ _; omega), fun q8 g8 => ?_⟩
  rw [← List.map_append, set_cut hi]
  have A8 := Same.new (o := .lst ((ns.set i (-1)).map V.int)) g8
  have r4 := upd_same (H := upd (upd (upd (upd G4 q3 (.lst ((ns.take i).map V.int))) q4 (.lst [V.int (-1)])) q5 (.lst ((ns.take i ++ [-1]).map V.int))) q6 (.lst ((ns.drop (i + 1)).map V.int))) (a := q8) (o := .lst ((ns.set i (-1)).map V.int))
  have A48 := ((A4.trans A5).trans (A6.trans A7)).trans A8
  have r1 := A48 _ _ r1
  have r2 := A48 _ _ r2
  have r3 := A48 _ _ r3
  have eb := A48 _ _ eb
  have A11 := A10.trans A48
  revert A11 r1 r2 r3 r4 eb
  generalize upd (upd (upd (upd (upd G4 q3 (.lst ((ns.take i).map V.int))) q4 (.lst [V.int (-1)])) q5 (.lst ((ns.take i ++ [-1]).map V.int))) q6 (.lst ((ns.drop (i + 1)).map V.int))) q8 (.lst ((ns.set i (-1)).map V.int)) = G5
  intro r4 r1 r2 r3 eb A11
  clear A4 A5 A6 A7 A8 A48 g3 g4 g5 g6 g8 A10
  refine ⟨lb, _, _, rfl, rfl, eb, (by show 3 < sizeLine; decide), ?_⟩
  have SU := A11.upd (o := .lst [.ref q1, .ref q2, .ref q7, .ref q8]) fb7
  have ne : ∀ {x : Addr} {ms : List Int}, G5 x = some (.lst (ms.map V.int)) → x ≠ lb := fun {x ms} e z => by
    rw [z, eb] at e
    rcases ms with _ | ⟨m, ms⟩
    · cases e
    · cases e
  have keep : ∀ {x : Addr} {ms : List Int}, G5 x = some (.lst (ms.map V.int)) → upd G5 lb (.lst [.ref q1, .ref q2, .ref q7, .ref q8]) x = some (.lst (ms.map V.int)) := fun {x ms} e => by rw [upd_ne (ne e)]; exact e
  have B9 := B.up (S47.trans SU)
  have four : n / 7 % 4 = 0 ∨ n / 7 % 4 = 1 ∨ n / 7 % 4 = 2 ∨ n / 7 % 4 = 3 := by omega
  have setv : ∀ {v : Int}, ¬ (0 ≤ v ∧ v < d) → ¬ Valid (kept ++ spare) (ns.set i v) := fun {v} hn z => hn (z.rng i d v hdi (List.getElem?_set_self hi))
  have set60 : ∀ {v : Int}, v.natAbs < 10 ^ 60 → ∀ z ∈ ns.set i v, z.natAbs < 10 ^ 60 := fun {v} hv' z hz => by
    rcases List.mem_or_eq_of_mem_set hz with y | y
    · exact n60 z y
    · rw [y]; exact hv'
  have e60 : (2000000 : Nat) ≤ 10 ^ 60 := by decide +kernel
  rcases four with z | z | z | z
  · refine ⟨_, rfl, _, rfl, _, rfl, _, _, rfl, rfl, ⟨by decide, by decide⟩, _, _, rfl, rfl, (by show (0 : Int) < 4; decide), lb, _, _, _, rfl, rfl, SqL.of upd_same, (show atI [V.ref q1, V.ref q2, V.ref q7, V.ref q8] (n / 7 % 4) = some (.ref q1) by rw [z]; rfl), _, _, _, rfl, .fig kept spare q1 (ns ++ [0]) B9 rfl (keep r1) (fun m hm => ?_) (fun w => ?_) fun H9 S9 => ⟨rfl, ?_⟩⟩
    · rcases List.mem_append.mp hm with y | y
      · exact n60 m y
      · rw [List.mem_singleton.mp y]; decide +kernel
    · have := w.len
      rw [List.length_append, List.length_singleton, hv.len] at this
      omega
    · rw [decide_eq_true rfl]; exact q H9 ((S47.trans SU).trans S9)
  · refine ⟨_, rfl, _, rfl, _, rfl, _, _, rfl, rfl, ⟨by decide, by decide⟩, _, _, rfl, rfl, (by show (0 : Int) < 4; decide), lb, _, _, _, rfl, rfl, SqL.of upd_same, (show atI [V.ref q1, V.ref q2, V.ref q7, V.ref q8] (n / 7 % 4) = some (.ref q2) by rw [z]; rfl), _, _, _, rfl, .fig kept spare q2 (ns.take (ns.length - 1)) B9 rfl (keep r2) (fun m hm => n60 m (List.mem_of_mem_take hm)) (fun w => ?_) fun H9 S9 => ⟨rfl, ?_⟩⟩
    · have := w.len
      rw [List.length_take, ← hv.len] at this
      omega
    · rw [decide_eq_true rfl]; exact q H9 ((S47.trans SU).trans S9)
  · refine ⟨_, rfl, _, rfl, _, rfl, _, _, rfl, rfl, ⟨by decide, by decide⟩, _, _, rfl, rfl, (by show (0 : Int) < 4; decide), lb, _, _, _, rfl, rfl, SqL.of upd_same, (show atI [V.ref q1, V.ref q2, V.ref q7, V.ref q8] (n / 7 % 4) = some (.ref q7) by rw [z]; rfl), _, _, _, rfl, .fig kept spare q7 (ns.set i d) B9 rfl (keep r3) (set60 (by omega)) (setv (by omega)) fun H9 S9 => ⟨rfl, ?_⟩⟩
    rw [decide_eq_true rfl]; exact q H9 ((S47.trans SU).trans S9)
  · refine ⟨_, rfl, _, rfl, _, rfl, _, _, rfl, rfl, ⟨by decide, by decide⟩, _, _, rfl, rfl, (by show (0 : Int) < 4; decide), lb, _, _, _, rfl, rfl, SqL.of upd_same, (show atI [V.ref q1, V.ref q2, V.ref q7, V.ref q8] (n / 7 % 4) = some (.ref q8) by rw [z]; rfl), _, _, _, rfl, .fig kept spare q8 (ns.set i (-1)) B9 rfl (keep r4) (set60 (by decide +kernel)) (setv (by omega)) fun H9 S9 => ⟨rfl, ?_⟩⟩
    rw [decide_eq_true rfl]; exact q H9 ((S47.trans SU).trans S9)
end
end K21
set_option Elab.async false
set_option linter.all false
set_option maxRecDepth 100000
set_option maxHeartbeats 4000000
namespace K21
open PySem L2 RF
section
variable {g : TG} {te : TE} {σ0 : St} {H1 : Hp} {Q : VK}
theorem comp_eachQ {J : It} (n : Nat) (hl : n < sizeLine) (R : Addr → Nat → List V → Hp → Prop) (j0 : ∀ D, H1 D = none → R D 0 [] (upd H1 D (.lst []))) (go : ∀ i H', i < n → Same H1 H' → J.go i H') (stop : ∀ H', Same H1 H' → J.stop n H')
    (step : ∀ D i x ys H' H'', i < n → H1 D = none → Same H1 H' → H' D = some (.lst ys) → R D i ys H' → J.yld i H' x H'' → ∀ Q' : VK, (∀ v H3, Same H' H3 → R D (i + 1) (ys ++ [v]) (upd H3 D (.lst (ys ++ [v]))) → Q' v H3) → g x σ0 H'' fun σ2 H2 => te σ2 H2 Q')
    (fin : ∀ D ys H', H1 D = none → Same H1 H' → H' D = some (.lst ys) → R D n ys H' → Q (.ref D) H') : compW J g te σ0 Q H1 := by
  intro D hD
  refine ⟨fun i m ys H' => i ≤ n ∧ m = n - i ∧ ys.length = i ∧ Same H1 H' ∧ H' D = some (.lst ys) ∧ R D i ys H', ⟨_, Nat.zero_le _, rfl, rfl, Same.new hD, upd_same, j0 D hD⟩, ?_⟩
  rintro i m ys H' ⟨hi, rfl, hy, S, e, hj⟩
  refine ⟨e, by omega, ?_⟩
  by_cases hlt : i < n
  · refine .inr ⟨go i H' hlt S, fun x H'' hy' => ?_⟩
    exact step D i x ys _ _ hlt hD S e hj hy' _ fun v H3 S3 hj' => ⟨S3 _ _ e, n - (i + 1), by omega, hlt, rfl, by rw [List.length_append, hy]; rfl, (S.trans S3).upd hD, upd_same, hj'⟩
  · have ei : i = n := by omega
    subst ei
    exact .inl ⟨stop H' S, fin D ys H' hD S e hj⟩
end
seal L2.PE L2.PA L2.PS L2.PSs L2.PT L2.PG L2.PI L2.PO L2.PEx L2.PSx L2.PSxs L2.PH L2.PW L2.PGs L2.PSet L2.OpR L2.CallR L2.SlR L2.IxR L2.PEp L2.PAp L2.PSp L2.PSsp L2.PTp L2.PSxp L2.PSxsp L2.PExp L2.PEb L2.PAb L2.PSb
section
variable {P : Program} {w : World} {K : PySem.W.Frag} {mg : Str → Option Value} {base : Heap} {cR cA cT cB cW cD cP cU cI cG cX : Addr}
noncomputable abbrev s_law : Stmt := top 38
theorem sc_law : FnScope ["_law_script", "_law_base", "_law_cell", "_law_number", "_law_divisors", "_law_figure"] ["_law_script"] (defScope s_law) := ⟨rfl, rfl, rfl, by decide +kernel, rfl, by decide +kernel, by decide +kernel⟩
theorem body_law (T : Txt K mg cR cA cT cB cW cD cP cU cI cG cX) (F__law_base_by : FnS P w K mg base "_law_base_by" ["_law_number"] 1 sp_base_by) (F__law_mixed : FnS P w K mg base "_law_mixed" ["_law_number", "_law_k"] 1 sp_mixed) (F__law_cell_at : FnS P w K mg base "_law_cell_at" ["_law_script", "_law_k"] 1 (sp_cell_at K)) (F__law_right : FnP P w K mg base "_law_right" ["_law_base", "_law_figure", "_law_number"] 7 sp_right) :
    Body P w K mg base ["_law_script", "_law_base", "_law_cell", "_law_number", "_law_divisors", "_law_figure"] "law" s_law 8 (sp_law K) := by
  intro f cdv A outer s H vs Q E hr h
  obtain ⟨_, rfl, l, ns0, rfl, hq, h63, k⟩ := h
  refine ⟨_, (pss_pos (psb_set (i := 1) sc_law.nd rfl (Or.inl rfl) (peb_fn F__law_base_by hr passes0 (pab_first (peb_fn F__law_mixed hr passes0 (pab_first (peb_fn F__law_cell_at hr passes0 (pab_next (pv 0) (pab_int (PA.p pa_nil)))) (PA.p (ac pe_int pa_nil)))) (PA.p pa_nil))))
      (pssp_cons (psp_for own_pass rfl (pi_list (pe_op op0catS (pe_lst (ac pe_int pa_nil)) (pe_slice sl_list (pv 0) (po_some pe_int) (po_some pe_int)))) (pg_name (i := 2) sc_law.nd rfl (Or.inl rfl))
        (pssp_cons (PS.p (ps_set (i := 3) sc_law.nd rfl (Or.inr rfl) (cFn F__law_mixed hr passes0 (ac (pv 2) (ac pe_int pa_nil)))))
        (pssp_cons (PS.p (ps_set (i := 4) sc_law.nd rfl (Or.inr rfl) (pe_op op0catTP (pe_ix ix0T (pv 1) pe_int (fun _ _ => rfl)) (pe_ix ix0T (pv 1) pe_int (fun _ _ => rfl)))))
        (pssp_cons (PS.p (ps_setC (i := 5) (lv := 1) (caps := [3, 4]) (N' := ["_law_k", "_law_number", "_law_divisors"]) (xe := fun _ _ _ _ _ _ => False) (fun _ _ _ _ _ _ _ _ _ _ _ _ _ z => z.elim) sc_law.nd rfl (Or.inl rfl) rfl (CompOk.caps (sc := defScope s_law) rfl (by decide +kernel) (by decide +kernel) (by decide +kernel) rfl rfl (compcap2 rfl rfl rfl rfl rfl rfl)) (keep_name (by decide)) (pi_range1 rfl T.range (ac (cBi call0len (by rfl) T.len PyProof.Rows.Boot.«len» (ac (pv 4) pa_nil)) pa_nil)) (fun _ _ _ _ => pg_name (i := 0) (show (["_law_k", "_law_number", "_law_divisors"] : List Str).Nodup by decide +kernel) rfl (Or.inl rfl)) (fun _ _ _ _ => (pe_op op_mod (cFn F__law_mixed hr passes0 (ac (pv 1) (ac (pe_op op_add pe_int (pv 0)) pa_nil))) (pe_ix ix0T (pv 2) (pv 0) (fun _ _ => rfl))))))
        (pssp_one (psp_if (ptp_not (ptp_val (pep_fn F__law_right hr passes1 (PA.p (ac (pv 1) (ac (pv 5) (ac (pv 3) pa_nil)))))))
          (PSs.p (pss_one (ps_ret pe_bl)))
          (PSs.p pss_nil)))))))
      (pssp_one (PS.p (ps_ret pe_bl))))), ?_⟩
  try (set_option simprocs false in dsimp only [cxOf])
  refine ⟨_, rfl, _, _, rfl, l, ns0, 0, rfl, rfl, hq, by decide, fun c0 => ⟨_, _, rfl, c0, 1, rfl, rfl, by decide, by decide, fun n8 _ _ => ⟨_, rfl, n8, rfl, fun kept spare tb H1 gb S1 htb hb => ?_⟩⟩⟩
  have B1 : Bas H1 (.ref tb) kept spare := ⟨⟨tb, rfl, hb⟩, gb⟩
  have s100 : (1000 : Nat) ≤ sizeLine := by decide
  have k6 := gb.k6; have s4 := gb.s4; have k1 := gb.k1
  refine ⟨(by show 1 ≤ sizeLine; decide), fun p1 g1 => ⟨_, rfl, _, rfl, _, rfl, l, _, rfl, (Same.new g1).seq (S1.seq hq), fun p2 g2 => ?_⟩⟩
  rw [cut_mid (by decide) (by decide)]
  have lc : ((ns0.take (31 : Int).toNat).drop (1 : Int).toNat).length ≤ 31 := by
    rw [List.length_drop, List.length_take]
    show min 31 _ - 1 ≤ 31
    omega
  generalize (ns0.take (31 : Int).toNat).drop (1 : Int).toNat = cs at *
  have n12 : p1 ≠ p2 := by rintro rfl; rw [upd_same] at g2; cases g2
  refine ⟨p1, p2, _, _, rfl, rfl, SqL.of (by rw [upd_ne n12]; exact upd_same), SqL.of upd_same, ?_, fun p3 g3 => ⟨p3, rfl, ⟨_, SqL.of upd_same⟩, ?_⟩⟩
  · rw [List.length_map]; show 1 + _ ≤ _; omega
  have SG := ((Same.new g1).trans (Same.new g2)).trans (Same.new (o := .lst ([V.int 1] ++ cs.map V.int)) g3)
  revert SG
  generalize hG : upd _ p3 _ = G
  intro SG
  have eG : G p3 = some (.lst ([V.int 1] ++ cs.map V.int)) := by rw [← hG, upd_same]
  have BG := B1.up SG
  refine for_list (K := K) (xs := (1 :: cs).map V.int) (fun i σ H' => ∃ y2 y3 y4 y5 : Option V, σ = [some (.ref l), some (.ref tb), y2, y3, y4, y5] ∧ Same G H') ⟨none, none, none, none, rfl, Same.refl G⟩ (fun i σ H' _ ⟨_, _, _, _, _, S⟩ => SqL.of (S _ _ eG)) ?_ ?_
  rotate_left
  · rintro σ H2 ⟨y2, y3, y4, y5, rfl, S2⟩
    exact k H2
  rintro i x σ H2 hx ⟨y2, y3, y4, y5, rfl, S2⟩
  obtain ⟨z, hz, rfl⟩ := ints_at hx
  refine ⟨_, rfl, _, _, rfl, z, 2, rfl, rfl, by decide, by decide, fun nb nb0 nb1 => ?_⟩
  have B2 := BG.up S2
  obtain ⟨⟨tb', etb, BA⟩, _⟩ := id B2
  cases etb
  obtain ⟨t1, t2, e0, e1, e2⟩ := BA.ex
  refine ⟨_, rfl, tb, _, _, _, rfl, rfl, SqT.of e0, rfl, _, rfl, tb, _, _, _, rfl, rfl, SqT.of e0, rfl, .mk t1 t2 _ _ rfl rfl e1 e2 (by rw [List.length_map, List.length_map]; omega) fun pd H3 S3 ed => ?_⟩
  rw [← List.map_append] at ed
  have hds : (kept ++ spare).length = kept.length + spare.length := List.length_append
  have nd : (((kept ++ spare).map V.int).length : Int).toNat = (kept ++ spare).length := by rw [List.length_map, Int.toNat_natCast]
  refine ⟨_, rfl, pd, _, rfl, .inr (SqT.of ed), _, rfl, (by show -(2 ^ 62) ≤ (((kept ++ spare).map V.int).length : Int); omega), (by show (((kept ++ spare).map V.int).length : Int) < 2 ^ 62; rw [List.length_map]; omega), ?_⟩
  rw [nd]
  refine comp_eachQ (J := Itr 0 (kept ++ spare).length) (kept ++ spare).length (by omega) (fun D i ys _ => ∃ rs : List Int, ys = rs.map V.int ∧ rs.length = i ∧ ∀ (j : Nat) (d r : Int), (kept ++ spare)[j]? = some d → rs[j]? = some r → 0 ≤ r ∧ r < d) (fun D _ => ⟨[], rfl, rfl, fun j d r _ h => by simp at h⟩) (fun i _ h _ => h) (fun _ _ => Nat.le_refl _) ?_ ?_
  · rintro D j x ys H' H'' hj hD S e hR ⟨rfl, rfl⟩ Q' q
    obtain ⟨rs, rfl, hrl, hrv⟩ := hR
    obtain ⟨d, hdj⟩ : ∃ d, (kept ++ spare)[j]? = some d := ⟨_, List.getElem?_eq_getElem hj⟩
    have hd2 := gb.rng d (List.mem_of_getElem? hdj)
    have hat : atI ((kept ++ spare).map V.int) (0 + (j : Int)) = some (.int d) := by rw [Int.zero_add]; exact atI_nat (by rw [List.getElem?_map, hdj]; rfl)
    refine ⟨_, rfl, _, rfl, _, _, rfl, rfl, _, _, rfl, nb, 3 + (0 + (j : Int)), rfl, rfl, by omega, by omega, fun mx _ _ => ⟨_, rfl, _, rfl, pd, _, _, _, rfl, rfl, SqT.of (S _ _ ed), hat, _, _, rfl, rfl, (by show 0 < d; omega), q _ _ (Same.refl _) ⟨rs ++ [mx % d], by rw [List.map_append]; rfl, by rw [List.length_append, hrl]; rfl, fun j' d' r hd' hr' => ?_⟩⟩⟩
    rcases Nat.lt_or_ge j' j with hlt | hge
    · rw [List.getElem?_append_left (by omega)] at hr'
      exact hrv j' d' r hd' hr'
    · have hj' := (List.getElem?_eq_some_iff.mp hr').1
      rw [List.length_append, hrl] at hj'
      have ej : j' = j := by simp only [List.length_singleton] at hj'; omega
      subst ej
      rw [List.getElem?_append_right (by omega), hrl, Nat.sub_self] at hr'
      rw [hdj] at hd'; cases hd'
      cases hr'
      exact ⟨Int.emod_nonneg _ (by omega), Int.emod_lt_of_pos _ (by omega)⟩
  · intro lf ys H4 hlf S4 elf hR
    obtain ⟨rs, rfl, hrl, hrv⟩ := hR
    have S24 := (S2.trans S3).trans S4
    refine ⟨_, rfl, _, rfl, _, rfl, _, _, _, rfl, kept, spare, lf, rs, nb, BG.up S24, rfl, elf, ⟨hrl, hrv⟩, rfl, nb0, fun H5 S5 => ⟨_, rfl, iteF ?_⟩⟩
    exact ⟨_, _, _, _, rfl, S24.trans S5⟩
end
end K21
set_option Elab.async false
set_option linter.all false
set_option maxRecDepth 100000
set_option maxHeartbeats 4000000
namespace K21
open PySem L2 RF
seal L2.PE L2.PA L2.PS L2.PSs L2.PT L2.PG L2.PI L2.PO L2.PEx L2.PSx L2.PSxs L2.PH L2.PW L2.PGs L2.PSet L2.OpR L2.CallR L2.SlR L2.IxR
section
variable {P : Program} {w : World} {K : PySem.W.Frag} {mg : Str → Option Value} {base : Heap} {cR cA cT cB cW cD cP cU cI cG cX : Addr}
noncomputable def clsAt (s : Stmt) (i : Nat) : Stmt := match s with
  | .ClassDef _ _ _ body _ _ _ _ _ _ _ => body.getD i (.Pass ⟨0, 0, 0, 0⟩)
  | _ => s
noncomputable abbrev s_init : Stmt := clsAt (top 11) 0
theorem sc_init : FnScope ["self", "row"] ["self", "row"] (defScope s_init) := ⟨rfl, rfl, rfl, by decide +kernel, rfl, by decide +kernel, by decide +kernel⟩
theorem ok_init {fI : Addr} {fd : FuncData} (F : Fun K "__init__" "BadText.__init__" s_init fI fd) (G : ExcF K cX "row") : FnOk P w K mg base (CX1 P w) 1 fI fd ["self", "row"] (spInit cX "row") := by
  refine F.okX sc_init (fun vs H Q E h => by obtain ⟨_, _, rfl, _⟩ := h; rfl) fun cdv A outer s H vs Q E hr h => ?_
  obtain ⟨_, _, rfl, e, rfl, he, q⟩ := h
  refine ⟨_, (pss_one (ps_exf (pv 0) (pv 1) rfl)), ?_⟩
  exact ⟨_, rfl, _, rfl, e, cX, rfl, he, G, fun d hd => q d hd⟩
theorem ok_initM {fI : Addr} {fd : FuncData} (F : Fun K "__init__" "BadText.__init__" s_init fI fd) (G : ExcF K cX "row") : FnOkM P w K mg base 1 fI fd ["self", "row"] (spInit cX "row") := by
  obtain ⟨oc, od, kV, doc, pm, an, cdv, ct, osl, rfl, lk, hcd⟩ := F.ex
  refine fn_ofM lk hcd sc_init (fun vs H Q E h => by obtain ⟨_, _, rfl, _⟩ := h; rfl) fun A outer s H vs Q hr h => ?_
  obtain ⟨_, _, rfl, e, rfl, he, q⟩ := h
  refine ⟨_, (pss_one (ps_exf (pv 0) (pv 1) rfl)), ?_⟩
  exact ⟨_, rfl, _, rfl, e, cX, rfl, he, G, fun d hd => q d hd⟩
theorem rowI {fI : Addr} {oc : Value} {od an : Option Addr} {osl : Array (Option Value)} {kV doc pm cdv ct : Value} (T : Txt K mg cR cA cT cB cW cD cP cU cI cG cX) (G : ExcF K cX "row") (hq : excInI K cX fI bmV "ValueError.__new__" = true) (hfn : PySem.W.isFn K (.ref fI) = true)
    (l : K.lookup fI = some ⟨oc, od, .func (PySem.W.fnOf "__init__" "BadText.__init__" (defArgs s_init) (defBody s_init) (defScope s_init) .none kV doc pm an cdv ct), osl⟩) (c : PySem.W.codeIn K cdv "BadText.__init__" = true) (kp : PySem.W.keepIn K (.ref fI) = true) : RowI P w K mg base "BadText" cX "row" 1 :=
  ⟨fI, _, "row", hq, T.BadText, hfn, ok_init (fun_mk l c kp) G, .all fun us hl => by
    match us, hl with
    | [a, b], _ => rfl⟩
theorem rowM {fI : Addr} {oc : Value} {od an : Option Addr} {osl : Array (Option Value)} {kV doc pm cdv ct : Value} (T : Txt K mg cR cA cT cB cW cD cP cU cI cG cX) (G : ExcF K cX "row") (hq : excInI K cX fI bmV "ValueError.__new__" = true) (hfn : PySem.W.isFn K (.ref fI) = true)
    (l : K.lookup fI = some ⟨oc, od, .func (PySem.W.fnOf "__init__" "BadText.__init__" (defArgs s_init) (defBody s_init) (defScope s_init) .none kV doc pm an cdv ct), osl⟩) (c : PySem.W.codeIn K cdv "BadText.__init__" = true) (kp : PySem.W.keepIn K (.ref fI) = true)   : RowM P w K mg base "BadText" cX "row" 1 :=
  ⟨fI, _, "row", hq, T.BadText, hfn, ok_initM (fun_mk l c kp) G, .all fun us hl => by
    match us, hl with
    | [a, b], _ => rfl⟩
end
end K21
set_option Elab.async false
set_option linter.all false
set_option maxRecDepth 100000
set_option maxHeartbeats 4000000
namespace K21
open PySem L2 RF
theorem all_mk {l : PySem.W.OpenLaw} {w : World} {K : PySem.W.Frag} {h : Heap} {mg : Str → Option Value} {fa : Addr} (X : K.In h) (G : h.Ns mainGlobals mg) (hfa : mg "law" = some (.ref fa))
    {f0 : Addr} {od0 an0 : Option Addr} {sl0 : Array (Option Value)} {oc0 kV0 dc0 pm0 cd0 ct0 : Value}
    {f1 : Addr} {od1 an1 : Option Addr} {sl1 : Array (Option Value)} {oc1 kV1 dc1 pm1 cd1 ct1 : Value}
    {f2 : Addr} {od2 an2 : Option Addr} {sl2 : Array (Option Value)} {oc2 kV2 dc2 pm2 cd2 ct2 : Value}
    {f3 : Addr} {od3 an3 : Option Addr} {sl3 : Array (Option Value)} {oc3 kV3 dc3 pm3 cd3 ct3 : Value}
    {f4 : Addr} {od4 an4 : Option Addr} {sl4 : Array (Option Value)} {oc4 kV4 dc4 pm4 cd4 ct4 : Value}
    {f5 : Addr} {od5 an5 : Option Addr} {sl5 : Array (Option Value)} {oc5 kV5 dc5 pm5 cd5 ct5 : Value}
    {f6 : Addr} {od6 an6 : Option Addr} {sl6 : Array (Option Value)} {oc6 kV6 dc6 pm6 cd6 ct6 : Value}
    {f7 : Addr} {od7 an7 : Option Addr} {sl7 : Array (Option Value)} {oc7 kV7 dc7 pm7 cd7 ct7 : Value}
    {f8 : Addr} {od8 an8 : Option Addr} {sl8 : Array (Option Value)} {oc8 kV8 dc8 pm8 cd8 ct8 : Value}
    {f9 : Addr} {od9 an9 : Option Addr} {sl9 : Array (Option Value)} {oc9 kV9 dc9 pm9 cd9 ct9 : Value}
    {f10 : Addr} {od10 an10 : Option Addr} {sl10 : Array (Option Value)} {oc10 kV10 dc10 pm10 cd10 ct10 : Value}
    {f11 : Addr} {od11 an11 : Option Addr} {sl11 : Array (Option Value)} {oc11 kV11 dc11 pm11 cd11 ct11 : Value}
    {f12 : Addr} {od12 an12 : Option Addr} {sl12 : Array (Option Value)} {oc12 kV12 dc12 pm12 cd12 ct12 : Value}
    {f13 : Addr} {od13 an13 : Option Addr} {sl13 : Array (Option Value)} {oc13 kV13 dc13 pm13 cd13 ct13 : Value}
    {f14 : Addr} {od14 an14 : Option Addr} {sl14 : Array (Option Value)} {oc14 kV14 dc14 pm14 cd14 ct14 : Value}
    {f15 : Addr} {od15 an15 : Option Addr} {sl15 : Array (Option Value)} {oc15 kV15 dc15 pm15 cd15 ct15 : Value}
    {f16 : Addr} {od16 an16 : Option Addr} {sl16 : Array (Option Value)} {oc16 kV16 dc16 pm16 cd16 ct16 : Value}
    {f17 : Addr} {od17 an17 : Option Addr} {sl17 : Array (Option Value)} {oc17 kV17 dc17 pm17 cd17 ct17 : Value}
    {cR : Addr}
    {cA : Addr}
    {cT : Addr}
    {cB : Addr}
    {cW : Addr}
    {cD : Addr}
    {cP : Addr}
    {cU : Addr}
    {cI : Addr}
    {cG : Addr}
    {cX : Addr}
    {tk25 : Tok}
    {tk26 : Tok}
    {fI : Addr} {odI anI : Option Addr} {slI : Array (Option Value)} {ocI kVI dcI pmI cdI ctI : Value}
    (a0 : PySem.W.nsIn K mainGlobals "divisors_of" = some (some (.ref f0))) (l0 : K.lookup f0 = some ⟨oc0, od0, .func (PySem.W.fnOf "divisors_of" "divisors_of" (defArgs s_divisors_of) (defBody s_divisors_of) (defScope s_divisors_of) .none kV0 dc0 pm0 an0 cd0 ct0), sl0⟩) (c0 : PySem.W.codeIn K cd0 "divisors_of" = true) (k0 : PySem.W.keepIn K (.ref f0) = true)
    (a1 : PySem.W.nsIn K mainGlobals "refuse_no_figure" = some (some (.ref f1))) (l1 : K.lookup f1 = some ⟨oc1, od1, .func (PySem.W.fnOf "refuse_no_figure" "refuse_no_figure" (defArgs s_refuse_no_figure) (defBody s_refuse_no_figure) (defScope s_refuse_no_figure) .none kV1 dc1 pm1 an1 cd1 ct1), sl1⟩) (c1 : PySem.W.codeIn K cd1 "refuse_no_figure" = true) (k1 : PySem.W.keepIn K (.ref f1) = true)
    (a2 : PySem.W.nsIn K mainGlobals "figure_text" = some (some (.ref f2))) (l2 : K.lookup f2 = some ⟨oc2, od2, .func (PySem.W.fnOf "figure_text" "figure_text" (defArgs s_figure_text) (defBody s_figure_text) (defScope s_figure_text) .none kV2 dc2 pm2 an2 cd2 ct2), sl2⟩) (c2 : PySem.W.codeIn K cd2 "figure_text" = true) (k2 : PySem.W.keepIn K (.ref f2) = true)
    (a3 : PySem.W.nsIn K mainGlobals "figure_from" = some (some (.ref f3))) (l3 : K.lookup f3 = some ⟨oc3, od3, .func (PySem.W.fnOf "figure_from" "figure_from" (defArgs s_figure_from) (defBody s_figure_from) (defScope s_figure_from) .none kV3 dc3 pm3 an3 cd3 ct3), sl3⟩) (c3 : PySem.W.codeIn K cd3 "figure_from" = true) (k3 : PySem.W.keepIn K (.ref f3) = true)
    (a4 : PySem.W.nsIn K mainGlobals "number_text" = some (some (.ref f4))) (l4 : K.lookup f4 = some ⟨oc4, od4, .func (PySem.W.fnOf "number_text" "number_text" (defArgs s_number_text) (defBody s_number_text) (defScope s_number_text) .none kV4 dc4 pm4 an4 cd4 ct4), sl4⟩) (c4 : PySem.W.codeIn K cd4 "number_text" = true) (k4 : PySem.W.keepIn K (.ref f4) = true)
    (a5 : PySem.W.nsIn K mainGlobals "numbers_from" = some (some (.ref f5))) (l5 : K.lookup f5 = some ⟨oc5, od5, .func (PySem.W.fnOf "numbers_from" "numbers_from" (defArgs s_numbers_from) (defBody s_numbers_from) (defScope s_numbers_from) .none kV5 dc5 pm5 an5 cd5 ct5), sl5⟩) (c5 : PySem.W.codeIn K cd5 "numbers_from" = true) (k5 : PySem.W.keepIn K (.ref f5) = true)
    (a6 : PySem.W.nsIn K mainGlobals "is_number" = some (some (.ref f6))) (l6 : K.lookup f6 = some ⟨oc6, od6, .func (PySem.W.fnOf "is_number" "is_number" (defArgs s_is_number) (defBody s_is_number) (defScope s_is_number) .none kV6 dc6 pm6 an6 cd6 ct6), sl6⟩) (c6 : PySem.W.codeIn K cd6 "is_number" = true) (k6 : PySem.W.keepIn K (.ref f6) = true)
    (a7 : PySem.W.nsIn K mainGlobals "_law_cell_at" = some (some (.ref f7))) (l7 : K.lookup f7 = some ⟨oc7, od7, .func (PySem.W.fnOf "_law_cell_at" "_law_cell_at" (defArgs s__law_cell_at) (defBody s__law_cell_at) (defScope s__law_cell_at) .none kV7 dc7 pm7 an7 cd7 ct7), sl7⟩) (c7 : PySem.W.codeIn K cd7 "_law_cell_at" = true) (k7 : PySem.W.keepIn K (.ref f7) = true)
    (a8 : PySem.W.nsIn K mainGlobals "_law_mixed" = some (some (.ref f8))) (l8 : K.lookup f8 = some ⟨oc8, od8, .func (PySem.W.fnOf "_law_mixed" "_law_mixed" (defArgs s__law_mixed) (defBody s__law_mixed) (defScope s__law_mixed) .none kV8 dc8 pm8 an8 cd8 ct8), sl8⟩) (c8 : PySem.W.codeIn K cd8 "_law_mixed" = true) (k8 : PySem.W.keepIn K (.ref f8) = true)
    (a9 : PySem.W.nsIn K mainGlobals "_law_base_by" = some (some (.ref f9))) (l9 : K.lookup f9 = some ⟨oc9, od9, .func (PySem.W.fnOf "_law_base_by" "_law_base_by" (defArgs s__law_base_by) (defBody s__law_base_by) (defScope s__law_base_by) .none kV9 dc9 pm9 an9 cd9 ct9), sl9⟩) (c9 : PySem.W.codeIn K cd9 "_law_base_by" = true) (k9 : PySem.W.keepIn K (.ref f9) = true)
    (a10 : PySem.W.nsIn K mainGlobals "_law_whole" = some (some (.ref f10))) (l10 : K.lookup f10 = some ⟨oc10, od10, .func (PySem.W.fnOf "_law_whole" "_law_whole" (defArgs s__law_whole) (defBody s__law_whole) (defScope s__law_whole) .none kV10 dc10 pm10 an10 cd10 ct10), sl10⟩) (c10 : PySem.W.codeIn K cd10 "_law_whole" = true) (k10 : PySem.W.keepIn K (.ref f10) = true)
    (a11 : PySem.W.nsIn K mainGlobals "_law_wholes" = some (some (.ref f11))) (l11 : K.lookup f11 = some ⟨oc11, od11, .func (PySem.W.fnOf "_law_wholes" "_law_wholes" (defArgs s__law_wholes) (defBody s__law_wholes) (defScope s__law_wholes) .none kV11 dc11 pm11 an11 cd11 ct11), sl11⟩) (c11 : PySem.W.codeIn K cd11 "_law_wholes" = true) (k11 : PySem.W.keepIn K (.ref f11) = true)
    (a12 : PySem.W.nsIn K mainGlobals "_law_marks" = some (some (.ref f12))) (l12 : K.lookup f12 = some ⟨oc12, od12, .func (PySem.W.fnOf "_law_marks" "_law_marks" (defArgs s__law_marks) (defBody s__law_marks) (defScope s__law_marks) .none kV12 dc12 pm12 an12 cd12 ct12), sl12⟩) (c12 : PySem.W.codeIn K cd12 "_law_marks" = true) (k12 : PySem.W.keepIn K (.ref f12) = true)
    (a13 : PySem.W.nsIn K mainGlobals "_law_text_of" = some (some (.ref f13))) (l13 : K.lookup f13 = some ⟨oc13, od13, .func (PySem.W.fnOf "_law_text_of" "_law_text_of" (defArgs s__law_text_of) (defBody s__law_text_of) (defScope s__law_text_of) .none kV13 dc13 pm13 an13 cd13 ct13), sl13⟩) (c13 : PySem.W.codeIn K cd13 "_law_text_of" = true) (k13 : PySem.W.keepIn K (.ref f13) = true)
    (a14 : PySem.W.nsIn K mainGlobals "_law_spoiled" = some (some (.ref f14))) (l14 : K.lookup f14 = some ⟨oc14, od14, .func (PySem.W.fnOf "_law_spoiled" "_law_spoiled" (defArgs s__law_spoiled) (defBody s__law_spoiled) (defScope s__law_spoiled) .none kV14 dc14 pm14 an14 cd14 ct14), sl14⟩) (c14 : PySem.W.codeIn K cd14 "_law_spoiled" = true) (k14 : PySem.W.keepIn K (.ref f14) = true)
    (a15 : PySem.W.nsIn K mainGlobals "_law_refused" = some (some (.ref f15))) (l15 : K.lookup f15 = some ⟨oc15, od15, .func (PySem.W.fnOf "_law_refused" "_law_refused" (defArgs s__law_refused) (defBody s__law_refused) (defScope s__law_refused) .none kV15 dc15 pm15 an15 cd15 ct15), sl15⟩) (c15 : PySem.W.codeIn K cd15 "_law_refused" = true) (k15 : PySem.W.keepIn K (.ref f15) = true)
    (a16 : PySem.W.nsIn K mainGlobals "_law_right" = some (some (.ref f16))) (l16 : K.lookup f16 = some ⟨oc16, od16, .func (PySem.W.fnOf "_law_right" "_law_right" (defArgs s__law_right) (defBody s__law_right) (defScope s__law_right) .none kV16 dc16 pm16 an16 cd16 ct16), sl16⟩) (c16 : PySem.W.codeIn K cd16 "_law_right" = true) (k16 : PySem.W.keepIn K (.ref f16) = true)
    (a17 : PySem.W.nsIn K mainGlobals "law" = some (some (.ref f17))) (l17 : K.lookup f17 = some ⟨oc17, od17, .func (PySem.W.fnOf "law" "law" (defArgs s_law) (defBody s_law) (defScope s_law) .none kV17 dc17 pm17 an17 cd17 ct17), sl17⟩) (c17 : PySem.W.codeIn K cd17 "law" = true) (k17 : PySem.W.keepIn K (.ref f17) = true)
    (z0 : PySem.W.nsIn K mainGlobals "len" = some none)
    (z1 : PySem.W.nsIn K mainGlobals "isinstance" = some none)
    (z2 : PySem.W.nsIn K mainGlobals "sorted" = some none)
    (z3 : PySem.W.nsIn K mainGlobals "list" = some none)
    (z4 : PySem.W.nsIn K mainGlobals "tuple" = some none)
    (z5 : PySem.W.nsIn K mainGlobals "int" = some none)
    (z6 : PySem.W.nsIn K mainGlobals "bool" = some none)
    (z7 : PySem.W.nsIn K mainGlobals "str" = some none)
    (z8 : PySem.W.nsIn K mainGlobals "reversed" = some none)
    (z9 : PySem.W.nsIn K mainGlobals "zip" = some none)
    (z10 : PySem.W.nsIn K mainGlobals "all" = some none)
    (z11 : PySem.W.nsIn K mainGlobals "range" = some none)
    (z12 : PySem.W.nsIn K mainGlobals "ValueError" = some none)
    (z13 : PySem.W.nsIn K mainGlobals "RestError" = some (some (.ref cR)))
    (z14 : PySem.W.nsIn K mainGlobals "BadBase" = some (some (.ref cA)))
    (z15 : PySem.W.nsIn K mainGlobals "TooGreat" = some (some (.ref cT)))
    (z16 : PySem.W.nsIn K mainGlobals "BadFigure" = some (some (.ref cB)))
    (z17 : PySem.W.excIn K cB bmV "ValueError.__new__" = true)
    (z18 : PySem.W.nsIn K mainGlobals "Wrong" = some (some (.ref cW)))
    (z19 : PySem.W.nsIn K mainGlobals "BadDivisor" = some (some (.ref cD)))
    (z20 : PySem.W.nsIn K mainGlobals "BadPlace" = some (some (.ref cP)))
    (z21 : PySem.W.nsIn K mainGlobals "Unlike" = some (some (.ref cU)))
    (z22 : PySem.W.nsIn K mainGlobals "BadInput" = some (some (.ref cI)))
    (z23 : PySem.W.nsIn K mainGlobals "RowTooGreat" = some (some (.ref cG)))
    (z24 : PySem.W.nsIn K mainGlobals "BadText" = some (some (.ref cX)))
    (z25 : PySem.W.nsIn K mainGlobals "MOST_FIGURES" = some (some (.int 60 tk25)))
    (z26 : PySem.W.nsIn K mainGlobals "FIGURES" = some (some (.str "0123456789" tk26)))
    (xga_cX : PySem.W.findIn K (.ref cX) "__getattribute__" = some (some (.builtin "BaseException.__getattribute__")))
    (xgt_cX : PySem.W.findIn K (.ref cX) "__getattr__" = some none)
    (xcl_cX : PySem.W.findIn K (.ref cX) "__class__" = some (some (.builtin "object.__class__")))
    (xmo_cX : PySem.W.mroIn K cX (.type "object") = some true)
    (xmb_cX : PySem.W.mroIn K cX (.type "BaseException") = some true)
    (xr_cX : PySem.W.exmOne K (.ref cX) (.ref cR) = some true)
    (xv_cX : PySem.W.kitOne K (.ref cX) (.type "ValueError") = some true)
    (xk0_cX : PySem.W.kitOne K (.ref cX) (.ref cX) = some true)
    (xk1_cX : PySem.W.kitOne K (.ref cX) (.ref cA) = some false)
    (xk2_cX : PySem.W.kitOne K (.ref cX) (.ref cT) = some false)
    (xk3_cX : PySem.W.kitOne K (.ref cX) (.ref cB) = some false)
    (xk4_cX : PySem.W.kitOne K (.ref cX) (.ref cW) = some false)
    (xk5_cX : PySem.W.kitOne K (.ref cX) (.ref cG) = some false)
    (xk6_cX : PySem.W.kitOne K (.ref cX) (.ref cI) = some false)
    (xk7_cX : PySem.W.kitOne K (.ref cX) (.ref cD) = some false)
    (xk8_cX : PySem.W.kitOne K (.ref cX) (.ref cP) = some false)
    (xk9_cX : PySem.W.kitOne K (.ref cX) (.ref cU) = some false)
    (xga_cB : PySem.W.findIn K (.ref cB) "__getattribute__" = some (some (.builtin "BaseException.__getattribute__")))
    (xgt_cB : PySem.W.findIn K (.ref cB) "__getattr__" = some none)
    (xcl_cB : PySem.W.findIn K (.ref cB) "__class__" = some (some (.builtin "object.__class__")))
    (xmo_cB : PySem.W.mroIn K cB (.type "object") = some true)
    (xmb_cB : PySem.W.mroIn K cB (.type "BaseException") = some true)
    (xr_cB : PySem.W.exmOne K (.ref cB) (.ref cR) = some true)
    (xv_cB : PySem.W.kitOne K (.ref cB) (.type "ValueError") = some true)
    (xk0_cB : PySem.W.kitOne K (.ref cB) (.ref cX) = some false)
    (xk1_cB : PySem.W.kitOne K (.ref cB) (.ref cA) = some false)
    (xk2_cB : PySem.W.kitOne K (.ref cB) (.ref cT) = some false)
    (xk3_cB : PySem.W.kitOne K (.ref cB) (.ref cB) = some true)
    (xk4_cB : PySem.W.kitOne K (.ref cB) (.ref cW) = some false)
    (xk5_cB : PySem.W.kitOne K (.ref cB) (.ref cG) = some false)
    (xk6_cB : PySem.W.kitOne K (.ref cB) (.ref cI) = some false)
    (xk7_cB : PySem.W.kitOne K (.ref cB) (.ref cD) = some false)
    (xk8_cB : PySem.W.kitOne K (.ref cB) (.ref cP) = some false)
    (xk9_cB : PySem.W.kitOne K (.ref cB) (.ref cU) = some false)
    (xsp : PySem.W.specialIn K (.builtin "object.__class__") "__get__" = some (some (.builtin "getset_descriptor.__get__")))
    (xtk : PySem.W.takesIn K (.builtin "object.__class__") = some true)
    (xsa : PySem.W.findIn K (.ref cX) "__setattr__" = some (some (.builtin "object.__setattr__")))
    (xna : PySem.W.findIn K (.ref cX) "row" = some none)
    (xhd : PySem.W.hasDictIn K cX = true)
    (xmr : ((PySem.W.clsIn K cX).any fun cd => cd.mro == .ref cX :: .ref cR :: bmV) = true)
    (xf : PySem.W.findIn K (.ref cX) "__init__" = some (some (.ref fI)))
    (xl : K.lookup fI = some ⟨ocI, odI, .func (PySem.W.fnOf "__init__" "BadText.__init__" (defArgs s_init) (defBody s_init) (defScope s_init) .none kVI dcI pmI anI cdI ctI), slI⟩)
    (xc : PySem.W.codeIn K cdI "BadText.__init__" = true)
    (xkp : PySem.W.keepIn K (.ref fI) = true)
    (xfn : PySem.W.isFn K (.ref fI) = true)
    (xin : excInI K cX fI bmV "ValueError.__new__" = true)
    (xBB : PySem.W.exmOne K (.ref cB) (.ref cB) = some true) :
    ∃ fd : FuncData, (∀ (s : Shared) (v : Value), BindsTo s fd ⟨[v], []⟩ [("_law_script", v)]) ∧ ∀ base : Heap, K.In base → base.Ns mainGlobals mg → FnOk l.prog w K mg base (CX1 l.prog w) 9 fa fd ["_law_script"] (sp_law K) := by
  have e := hfa.symm.trans (PySem.W.mg_of X G a17)
  cases e
  have T : Txt K mg cR cA cT cB cW cD cP cU cI cG cX := ⟨PySem.W.mg_none_of X G z0, PySem.W.mg_none_of X G z1, PySem.W.mg_none_of X G z2, PySem.W.mg_none_of X G z3, PySem.W.mg_none_of X G z4, PySem.W.mg_none_of X G z5, PySem.W.mg_none_of X G z6, PySem.W.mg_none_of X G z7, PySem.W.mg_none_of X G z8, PySem.W.mg_none_of X G z9, PySem.W.mg_none_of X G z10, PySem.W.mg_none_of X G z11, PySem.W.mg_none_of X G z12, PySem.W.mg_of X G z13, PySem.W.mg_of X G z14, PySem.W.mg_of X G z15, PySem.W.mg_of X G z16, z17, PySem.W.mg_of X G z18, PySem.W.mg_of X G z19, PySem.W.mg_of X G z20, PySem.W.mg_of X G z21, PySem.W.mg_of X G z22, PySem.W.mg_of X G z23, PySem.W.mg_of X G z24, ⟨_, PySem.W.mg_of X G z25⟩, ⟨_, PySem.W.mg_of X G z26⟩⟩
  have D0 : Def K mg "divisors_of" s_divisors_of := def_mk X G a0 l0 c0 k0
  have D1 : Def K mg "refuse_no_figure" s_refuse_no_figure := def_mk X G a1 l1 c1 k1
  have D2 : Def K mg "figure_text" s_figure_text := def_mk X G a2 l2 c2 k2
  have D3 : Def K mg "figure_from" s_figure_from := def_mk X G a3 l3 c3 k3
  have D4 : Def K mg "number_text" s_number_text := def_mk X G a4 l4 c4 k4
  have D5 : Def K mg "numbers_from" s_numbers_from := def_mk X G a5 l5 c5 k5
  have D6 : Def K mg "is_number" s_is_number := def_mk X G a6 l6 c6 k6
  have D7 : Def K mg "_law_cell_at" s__law_cell_at := def_mk X G a7 l7 c7 k7
  have D8 : Def K mg "_law_mixed" s__law_mixed := def_mk X G a8 l8 c8 k8
  have D9 : Def K mg "_law_base_by" s__law_base_by := def_mk X G a9 l9 c9 k9
  have D10 : Def K mg "_law_whole" s__law_whole := def_mk X G a10 l10 c10 k10
  have D11 : Def K mg "_law_wholes" s__law_wholes := def_mk X G a11 l11 c11 k11
  have D12 : Def K mg "_law_marks" s__law_marks := def_mk X G a12 l12 c12 k12
  have D13 : Def K mg "_law_text_of" s__law_text_of := def_mk X G a13 l13 c13 k13
  have D14 : Def K mg "_law_spoiled" s__law_spoiled := def_mk X G a14 l14 c14 k14
  have D15 : Def K mg "_law_refused" s__law_refused := def_mk X G a15 l15 c15 k15
  have D16 : Def K mg "_law_right" s__law_right := def_mk X G a16 l16 c16 k16
  have FL := fun_mk (st := s_law) l17 c17 k17
  refine ⟨PySem.W.fnOf "law" "law" (defArgs s_law) (defBody s_law) (defScope s_law) .none kV17 dc17 pm17 an17 cd17 ct17, fun s v => .of_eq rfl, fun base _ _ => ?_⟩
  have M_cX : IsM K cR cX cA cT cB cW cG cI cD cP cU cX 0 := ⟨⟨xga_cX, xgt_cX, xcl_cX, xsp, xtk, xmo_cX, xmb_cX⟩, xr_cX, xv_cX, xk0_cX, xk1_cX, xk2_cX, xk3_cX, xk4_cX, xk5_cX, xk6_cX, xk7_cX, xk8_cX, xk9_cX⟩
  have M_cB : IsM K cR cX cA cT cB cW cG cI cD cP cU cB 3 := ⟨⟨xga_cB, xgt_cB, xcl_cB, xsp, xtk, xmo_cB, xmb_cB⟩, xr_cB, xv_cB, xk0_cB, xk1_cB, xk2_cB, xk3_cB, xk4_cB, xk5_cB, xk6_cB, xk7_cB, xk8_cB, xk9_cB⟩
  have GG : ExcF K cX "row" := ⟨⟨xga_cX, xgt_cX, xcl_cX, xsp, xtk, xmo_cX, xmb_cX⟩, xsa, xna, xhd, ⟨cR, xmr⟩⟩
  have GC : CM K cR cA cT cB cW cD cP cU cI cG cX := ⟨M_cX, GG, M_cB⟩
  have FRI := rowI (P := l.prog) (w := w) (base := base) T GG xin xfn xl xc xkp
  have FRM := rowM (P := l.prog) (w := w) (base := base) T GG xin xfn xl xc xkp
  have F0 := ok_divisors_of (P := l.prog) (w := w) (base := base) D0
  have F1 := ok_refuse D1 T F0
  have FN0 := ok_ntextF (P := l.prog) (w := w) (base := base) D4
  have FN1 := ok_ntext0 D4 T FN0
  have F4 := ok_ntext D4 T FN1
  have F2 := ok_ftext D2 T F1 F4
  have F6 := ok_isnum (P := l.prog) (w := w) (base := base) D6 T
  have F5 := ok_nfrom D5 T FRI F6
  have F3 := ok_ffrom D3 T FRI FRM xBB F5 F2
  have F7 := ok_cell_at (P := l.prog) (w := w) (base := base) D7 T
  have F8 := ok_mixed (P := l.prog) (w := w) (base := base) D8
  have F9 := ok_base_by (P := l.prog) (w := w) (base := base) D9 T
  have F10 := ok_whole (P := l.prog) (w := w) (base := base) D10 T
  have F11 := ok_wholes D11 T F10
  have F12 := ok_marks (P := l.prog) (w := w) (base := base) D12 T
  have F13 := ok_textof (P := l.prog) (w := w) (base := base) D13 T
  have F14 := ok_spoiled D14 T F13
  have F15 := ok_refused D15 T GC F3 F2 F10 F12
  have F16 := ok_right D16 T F13 F2 F3 F11 F14 F15
  exact FL.okX sc_law sp1_len (body_law T F9 F8 F7 F16 _)
theorem walk {l : PySem.W.OpenLaw} {q : Program} {loose : List Str} {XP : (Str → Option Value) → Heap → Prop} {YP : World → Heap → Prop} {d : DefRec} {K : Params → PySem.W.Frag} (hn : l.most = some 63) (hdf : d.params.defaults = [])
    (hY : ∀ (w : World) (h : Heap), YP w h → (K w.params).In h)
    (F : ∀ (w : World) (mg : Str → Option Value) (fa : Addr) (h : Heap), (K w.params).In h → h.Ns mainGlobals mg → mg d.name = some (.ref fa) →
      ∃ fd : FuncData, (∀ (s : Shared) (u : Value), BindsTo s fd ⟨[u], []⟩ [("_law_script", u)]) ∧ ∀ base : Heap, (K w.params).In base → base.Ns mainGlobals mg → FnOk l.prog w (K w.params) mg base (CX1 l.prog w) 9 fa fd ["_law_script"] (sp_law (K w.params))) :
    PySem.W.WalkO q loose XP YP l.row.toRowW d [] (fun f vs => PySem.call f vs) :=
  L2.walk_of (n := 63) (k := 9) (x := "_law_script") (CX := fun w => CX1 l.prog w) (sp := fun w => (sp_law (K w.params))) hn (by decide) hdf ⟨rfl, by decide, by decide⟩ hY F (fun _ _ a ns hl _ hS => ⟨_, rfl, a, ns, rfl, hS, hl, fun _ => rfl⟩) fun _ H s e s' => cx1_none H s e s'
end K21
open PySem PySem.W PyProof.Rows
theorem PySem.W.Fast.tw2761442600192338554 : True := trivial
theorem PySem.W.Fast.tw9412041853054531535 : True := trivial
theorem PySem.W.Fast.tw16909980134814713482 : True := trivial
theorem PySem.W.Fast.tw82097203833488148 : True := trivial
set_option maxRecDepth 100000 in
set_option maxHeartbeats 0 in
theorem PySem.Challenge.cw_restfigures_k21_figure_texts_holds : PySem.Challenge.rw_restfigures_k21_figure_texts.Holds := by
  w_on; o_law; k_head; (case hw => w_witness2)
  k_fill
  refine K21.walk (l := PySem.Challenge.rw_restfigures_k21_figure_texts) rfl rfl (fun w h Y => PySem.W.kIn_of Y) ?F
  case F =>
    intro w mg fa h KX G hmg
    refine' K21.all_mk KX G hmg ?a0 ?l0 ?c0 ?k0 ?a1 ?l1 ?c1 ?k1 ?a2 ?l2 ?c2 ?k2 ?a3 ?l3 ?c3 ?k3 ?a4 ?l4 ?c4 ?k4 ?a5 ?l5 ?c5 ?k5 ?a6 ?l6 ?c6 ?k6 ?a7 ?l7 ?c7 ?k7 ?a8 ?l8 ?c8 ?k8 ?a9 ?l9 ?c9 ?k9 ?a10 ?l10 ?c10 ?k10 ?a11 ?l11 ?c11 ?k11 ?a12 ?l12 ?c12 ?k12 ?a13 ?l13 ?c13 ?k13 ?a14 ?l14 ?c14 ?k14 ?a15 ?l15 ?c15 ?k15 ?a16 ?l16 ?c16 ?k16 ?a17 ?l17 ?c17 ?k17 ?z0 ?z1 ?z2 ?z3 ?z4 ?z5 ?z6 ?z7 ?z8 ?z9 ?z10 ?z11 ?z12 ?z13 ?z14 ?z15 ?z16 ?z17 ?z18 ?z19 ?z20 ?z21 ?z22 ?z23 ?z24 ?z25 ?z26 ?xga_cX ?xgt_cX ?xcl_cX ?xmo_cX ?xmb_cX ?xr_cX ?xv_cX ?xk0_cX ?xk1_cX ?xk2_cX ?xk3_cX ?xk4_cX ?xk5_cX ?xk6_cX ?xk7_cX ?xk8_cX ?xk9_cX ?xga_cB ?xgt_cB ?xcl_cB ?xmo_cB ?xmb_cB ?xr_cB ?xv_cB ?xk0_cB ?xk1_cB ?xk2_cB ?xk3_cB ?xk4_cB ?xk5_cB ?xk6_cB ?xk7_cB ?xk8_cB ?xk9_cB ?xsp ?xtk ?xsa ?xna ?xhd ?xmr ?xf ?xl ?xc ?xkp ?xfn ?xin ?xBB
    (case a0 => k_is)
    (case l0 => k_is)
    (case c0 => k_is)
    (case k0 => k_is)
    (case a1 => k_is)
    (case l1 => k_is)
    (case c1 => k_is)
    (case k1 => k_is)
    (case a2 => k_is)
    (case l2 => k_is)
    (case c2 => k_is)
    (case k2 => k_is)
    (case a3 => k_is)
    (case l3 => k_is)
    (case c3 => k_is)
    (case k3 => k_is)
    (case a4 => k_is)
    (case l4 => k_is)
    (case c4 => k_is)
    (case k4 => k_is)
    (case a5 => k_is)
    (case l5 => k_is)
    (case c5 => k_is)
    (case k5 => k_is)
    (case a6 => k_is)
    (case l6 => k_is)
    (case c6 => k_is)
    (case k6 => k_is)
    (case a7 => k_is)
    (case l7 => k_is)
    (case c7 => k_is)
    (case k7 => k_is)
    (case a8 => k_is)
    (case l8 => k_is)
    (case c8 => k_is)
    (case k8 => k_is)
    (case a9 => k_is)
    (case l9 => k_is)
    (case c9 => k_is)
    (case k9 => k_is)
    (case a10 => k_is)
    (case l10 => k_is)
    (case c10 => k_is)
    (case k10 => k_is)
    (case a11 => k_is)
    (case l11 => k_is)
    (case c11 => k_is)
    (case k11 => k_is)
    (case a12 => k_is)
    (case l12 => k_is)
    (case c12 => k_is)
    (case k12 => k_is)
    (case a13 => k_is)
    (case l13 => k_is)
    (case c13 => k_is)
    (case k13 => k_is)
    (case a14 => k_is)
    (case l14 => k_is)
    (case c14 => k_is)
    (case k14 => k_is)
    (case a15 => k_is)
    (case l15 => k_is)
    (case c15 => k_is)
    (case k15 => k_is)
    (case a16 => k_is)
    (case l16 => k_is)
    (case c16 => k_is)
    (case k16 => k_is)
    (case a17 => k_is)
    (case l17 => k_is)
    (case c17 => k_is)
    (case k17 => k_is)
    (case z0 => k_is)
    (case z1 => k_is)
    (case z2 => k_is)
    (case z3 => k_is)
    (case z4 => k_is)
    (case z5 => k_is)
    (case z6 => k_is)
    (case z7 => k_is)
    (case z8 => k_is)
    (case z9 => k_is)
    (case z10 => k_is)
    (case z11 => k_is)
    (case z12 => k_is)
    (case z13 => k_is)
    (case z14 => k_is)
    (case z15 => k_is)
    (case z16 => k_is)
    (case z17 => k_exc)
    (case z18 => k_is)
    (case z19 => k_is)
    (case z20 => k_is)
    (case z21 => k_is)
    (case z22 => k_is)
    (case z23 => k_is)
    (case z24 => k_is)
    (case z25 => k_is)
    (case z26 => k_is)
    (case xga_cX => k_is)
    (case xgt_cX => k_is)
    (case xcl_cX => k_is)
    (case xmo_cX => k_is)
    (case xmb_cX => k_is)
    (case xr_cX => kts_exm)
    (case xv_cX => kit_is)
    (case xk0_cX => kit_is)
    (case xk1_cX => kit_is)
    (case xk2_cX => kit_is)
    (case xk3_cX => kit_is)
    (case xk4_cX => kit_is)
    (case xk5_cX => kit_is)
    (case xk6_cX => kit_is)
    (case xk7_cX => kit_is)
    (case xk8_cX => kit_is)
    (case xk9_cX => kit_is)
    (case xga_cB => k_is)
    (case xgt_cB => k_is)
    (case xcl_cB => k_is)
    (case xmo_cB => k_is)
    (case xmb_cB => k_is)
    (case xr_cB => kts_exm)
    (case xv_cB => kit_is)
    (case xk0_cB => kit_is)
    (case xk1_cB => kit_is)
    (case xk2_cB => kit_is)
    (case xk3_cB => kit_is)
    (case xk4_cB => kit_is)
    (case xk5_cB => kit_is)
    (case xk6_cB => kit_is)
    (case xk7_cB => kit_is)
    (case xk8_cB => kit_is)
    (case xk9_cB => kit_is)
    (case xsp => k_is)
    (case xtk => k_is)
    (case xsa => k_is)
    (case xna => k_is)
    (case xhd => k_is)
    (case xmr => kernel_rfl)
    (case xf => k_is)
    (case xl => k_is)
    (case xc => k_is)
    (case xkp => k_is)
    (case xfn => k_is)
    (case xin => kernel_rfl)
    (case xBB => kts_exm)
