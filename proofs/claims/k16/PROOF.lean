import PyProof.Rows.All
import Wide.All
import OpenK.AllK
import Wide.FinOn
import Lean
import PyProof.EqAt
import PyProof.EqKinds
import PyProof.TupleCall
import PySem.Challenge.RW_restfigures_k16_products_of_tables
set_option Elab.async false
set_option compiler.extract_closed false
set_option linter.all false
set_option maxRecDepth 100000
namespace L2
open PySem PySem.Spec PyProof.Rows
noncomputable abbrev Key := Sum Int Str
noncomputable def keyIs : Key → Value → Bool
  | .inl k, v => Value.isInt k v
  | .inr x, v => Value.isStrOf x v
noncomputable def keyH (w : World) : Key → Int
  | .inl k => hashInt k
  | .inr x => hashStr w x
theorem keyIs_shape : ∀ {k : Key} {v : Value}, keyIs k v = true → (∃ i t, k = Sum.inl i ∧ v = Value.int i t) ∨ (∃ x t, k = Sum.inr x ∧ v = Value.str x t)
  | .inl i, v, h => by
    obtain ⟨t, e⟩ := Value.isInt_shape (k := i) (v := v) h
    exact .inl ⟨i, t, rfl, e⟩
  | .inr x, v, h => by
    obtain ⟨t, e⟩ := Value.isStrOf_shape (x := x) (v := v) h
    exact .inr ⟨x, t, rfl, e⟩
theorem key_ll (a b : Int) : decide ((Sum.inl a : Key) = Sum.inl b) = (a == b) := by
  by_cases e : a = b
  · subst e; simp
  · have h : ¬ (Sum.inl a : Key) = Sum.inl b := fun q => e (Sum.inl.inj q)
    rw [decide_eq_false h]
    exact (beq_eq_false_iff_ne.mpr e).symm
theorem key_rr (a b : Str) : decide ((Sum.inr a : Key) = Sum.inr b) = decide (a = b) := by
  by_cases e : a = b
  · subst e; simp
  · have h : ¬ (Sum.inr a : Key) = Sum.inr b := fun q => e (Sum.inr.inj q)
    rw [decide_eq_false h, decide_eq_false e]
theorem key_lr (a : Int) (b : Str) : decide ((Sum.inl a : Key) = Sum.inr b) = false := decide_eq_false (fun q => nomatch q)
theorem key_rl (a : Str) (b : Int) : decide ((Sum.inr a : Key) = Sum.inl b) = false := decide_eq_false (fun q => nomatch q)
noncomputable def mixKind (prog : Program) (w : World) : PySem.KeyKind prog w Key where
  is := keyIs
  hash := keyH w
  inj := fun v a b ha hb => by
    rcases keyIs_shape ha with ⟨i, t, rfl, rfl⟩ | ⟨x, t, rfl, rfl⟩
    · rcases keyIs_shape hb with ⟨j, u, rfl, e⟩ | ⟨y, u, rfl, e⟩
      · injection e with e1 _; rw [e1]
      · exact nomatch e
    · rcases keyIs_shape hb with ⟨j, u, rfl, e⟩ | ⟨y, u, rfl, e⟩
      · exact nomatch e
      · injection e with e1 _; rw [e1]
  byValue := fun k v h => by
    rcases keyIs_shape h with ⟨i, t, rfl, rfl⟩ | ⟨x, t, rfl, rfl⟩ <;> rfl
  pyHash := fun hv h => by
    rcases keyIs_shape hv with ⟨i, t, rfl, rfl⟩ | ⟨x, t, rfl, rfl⟩
    · exact wpAny_pyHash_int h
    · exact wpAny_pyHash_str h
  eqBool := fun hu hv h => by
    rcases keyIs_shape hu with ⟨i, t, rfl, rfl⟩ | ⟨x, t, rfl, rfl⟩
    · rcases keyIs_shape hv with ⟨j, u, rfl, rfl⟩ | ⟨y, u, rfl, rfl⟩
      · rw [key_ll] at h; exact wpAny_eqBool_int h
      · rw [key_lr] at h; exact SeqAt.EqAt.int_str i t y u _ _ _ _ h
    · rcases keyIs_shape hv with ⟨j, u, rfl, rfl⟩ | ⟨y, u, rfl, rfl⟩
      · rw [key_rl] at h; exact SeqAt.EqAt.str_int x t j u _ _ _ _ h
      · rw [key_rr] at h; exact wpAny_eqBool_str h
  «strs» := fun k x t v h => by
    rcases keyIs_shape h with ⟨i, u, rfl, e⟩ | ⟨y, u, rfl, e⟩
    · exact nomatch e
    · injection e with e1 _
      subst e1
      cases v <;> rfl
end L2
namespace L2
open PySem PySem.Spec PyProof.Rows
inductive V where
  | non | bl (b : Bool) | int (i : Int) | str (x : Str) | byt (b : Array UInt8) | flt (b : UInt64) | ref (a : Addr) | ty (n : String)
  deriving DecidableEq
noncomputable def RelV : V → Value → Prop
  | .non, u => u = Value.none
  | .bl b, u => u = Value.bool b
  | .int i, u => ∃ t, u = Value.int i t
  | .str x, u => ∃ t, u = Value.str x t
  | .byt b, u => ∃ t, u = Value.bytes b t
  | .flt b, u => ∃ t, u = Value.float b t
  | .ref a, u => u = Value.ref a
  | .ty n, u => u = Value.type n
noncomputable abbrev Vals : List V → List Value → Prop := Paired RelV
theorem Vals.length {xs : List V} {us : List Value} (r : Vals xs us) : xs.length = us.length := Paired.length r
theorem Vals.get : ∀ {xs : List V} {us : List Value} {i : Nat} {x : V}, Vals xs us → xs[i]? = some x → ∃ u, us[i]? = some u ∧ RelV x u
  | _, _, _, _, .nil, e => by simp at e
  | _, _, 0, _, .cons r _, e => by simp at e; subst e; exact ⟨_, rfl, r⟩
  | _, _, i + 1, x, .cons _ t, e => by
    obtain ⟨u, h1, h2⟩ := Vals.get (i := i) (x := x) t (by simpa using e)
    exact ⟨u, by simpa using h1, h2⟩
theorem Vals.set {x : V} {u : Value} (r : RelV x u) : ∀ {xs : List V} {us : List Value} (i : Nat), Vals xs us → Vals (xs.set i x) (us.set i u)
  | _, _, _, .nil => .nil
  | _, _, 0, .cons _ t => .cons r t
  | _, _, i + 1, .cons q t => .cons q (Vals.set r i t)
theorem Vals.append : ∀ {xs ys : List V} {us ws : List Value}, Vals xs us → Vals ys ws → Vals (xs ++ ys) (us ++ ws)
  | _, _, _, _, .nil, s => s
  | _, _, _, _, .cons r t, s => .cons r (Vals.append t s)
theorem Vals.take : ∀ {xs : List V} {us : List Value} (n : Nat), Vals xs us → Vals (xs.take n) (us.take n)
  | _, _, 0, _ => .nil
  | _, _, _ + 1, .nil => .nil
  | _, _, n + 1, .cons r t => .cons r (Vals.take n t)
theorem Vals.drop : ∀ {xs : List V} {us : List Value} (n : Nat), Vals xs us → Vals (xs.drop n) (us.drop n)
  | _, _, 0, r => r
  | _, _, _ + 1, .nil => .nil
  | _, _, n + 1, .cons _ t => Vals.drop n t
theorem Vals.none_of : ∀ {xs : List V} {us : List Value} {i : Nat}, Vals xs us → xs[i]? = none → us[i]? = none := fun {xs us i} r e => by
  have h1 := r.length
  have h2 : xs.length ≤ i := List.getElem?_eq_none_iff.mp e
  exact List.getElem?_eq_none_iff.mpr (by omega)
noncomputable def RelO : Option V → Option Value → Prop
  | some v, some u => RelV v u
  | none, none => True
  | _, _ => False
noncomputable def KV {κ : Type} : List (κ × V) → List (κ × Value) → Prop := Paired fun (p : κ × V) (q : κ × Value) => p.1 = q.1 ∧ RelV p.2 q.2
noncomputable def kV : Key → V
  | .inl i => .int i
  | .inr x => .str x
inductive HO where
  | lst (xs : List V)
  | tup (xs : List V)
  | dK (kvs : List (Key × V)) | dT (kvs : List (List Key × V))
  | set (S : Int → Bool) (n : Nat)
  | ins (C dx : Addr) (fs : List (Str × V))
  | own (x : Addr)
  | xd (fs : List (Str × V))
  | met (f x : Addr)
  | rng (lo hi : Int)
  | frz (o : Obj) (u : HO)
  | tbl (ps : Array Value)
  | ext (φ : Heap → Prop)
noncomputable abbrev Hp := Addr → Option HO
noncomputable def upd (H : Hp) (a : Addr) (o : HO) : Hp := fun b => if b = a then some o else H b
theorem upd_same {H : Hp} {a : Addr} {o : HO} : upd H a o a = some o := by unfold upd; rw [if_pos rfl]
theorem upd_ne {H : Hp} {a b : Addr} {o : HO} (h : b ≠ a) : upd H a o b = H b := by unfold upd; rw [if_neg h]
theorem ne_of_none {H : Hp} {a b : Addr} {o : HO} (h : H a = some o) (h' : H b = none) : a ≠ b := by
  intro e; subst e; rw [h] at h'; cases h'
section
variable (P : Program) (w : World)
noncomputable def ObjOk (H : Hp) (h : Heap) (a : Addr) : HO → Prop
  | .lst xs => xs.length ≤ sizeLine ∧ ∃ (its : List Value) (n : Nat), Vals xs its ∧ h.get? a = some { cls := .type "list", data := .seq its.toArray n }
  | .tup xs => xs.length ≤ sizeLine ∧ ∃ its : List Value, Vals xs its ∧ IsTup h a its.toArray
  | .dK kvs => kvs.length ≤ sizeLine ∧ (a == sysModules) = false ∧ ∃ vs, KV kvs vs ∧ h.DictOf (mixKind P w) a vs
  | .dT kvs => kvs.length ≤ sizeLine ∧ (a == sysModules) = false ∧ ∃ xs : List (List Key × Addr × Value),
      Paired (fun (p : List Key × V) (q : List Key × Addr × Value) => p.1 = q.1 ∧ H q.2.1 = some (.tup (p.1.map kV)) ∧ RelV p.2 q.2.2) kvs xs ∧
      ∃ o es ep, h.get? a = some o ∧ o.ExactDict ∧ o.data = .dict es ep ∧ es.toList = xs.map (entryOfKey (tupleKind (mixKind P w))) ∧ (xs.map (·.1)).Nodup
  | .set S n => h.SetOf (intKind P w) a S n
  | .ins C dx fs => H dx = some (.own a) ∧ fs.length ≤ 1000 ∧ dx ≠ a ∧ h.get? a = some (PySem.W.instObj C dx) ∧
      ∃ mA, h.Ns1 dx mA ∧ (∀ f, RelO (fs.lookup f) (mA f)) ∧ PySem.Within mA (fs.map (·.1))
  | .own _ => ∃ o, h.get? a = some o
  | .xd fs => ∃ mA, h.Ns1 a mA ∧ ∀ f, RelO (fs.lookup f) (mA f)
  | .rng lo hi => ∃ t u v, h.get? a = some { cls := .type "range", data := .fields #[.int lo t, .int hi u, .int 1 v] }
  | .frz o u => h.get? a = some o ∧ ObjOk H h a u
  | .tbl ps => h.get? a = some { cls := .none, data := .fields ps }
  | .met f x => h.get? a = some (PySem.W.methodObj (.ref f) (.ref x))
  | .ext φ => φ h ∧ (∃ o, h.get? a = some o) ∧ ∀ h1 h2 : Heap, φ h1 → (∀ o, h1.get? a = some o → h2.get? a = some o) → φ h2
noncomputable def HOk (H : Hp) (h : Heap) : Prop := ∀ a o, H a = some o → ObjOk P w H h a o
end
section
variable {P : Program} {w : World} {H H' : Hp} {h h' : Heap} {a : Addr} {o : HO}
theorem ObjOk.lt (x : ObjOk P w H h a o) : a < h.objs.size := by
  cases o with
  | lst xs => obtain ⟨_, _, _, _, e⟩ := x; exact Heap.lt_size e
  | tup xs => obtain ⟨_, _, _, p⟩ := x; exact p.lt
  | dK kvs => obtain ⟨_, _, _, _, o, _, _, e, _⟩ := x; exact Heap.lt_size e
  | dT kvs => obtain ⟨_, _, _, _, o, _, _, e, _⟩ := x; exact Heap.lt_size e
  | set S n => obtain ⟨o, _, _, _, e, _⟩ := x; exact Heap.lt_size e
  | ins C dx fs => obtain ⟨_, _, _, e, _⟩ := x; exact Heap.lt_size e
  | own y => obtain ⟨_, e⟩ := x; exact Heap.lt_size e
  | xd fs => obtain ⟨_, ⟨_, _, _, e, _⟩, _⟩ := x; exact Heap.lt_size e
  | rng lo hi => obtain ⟨_, _, _, e⟩ := x; exact Heap.lt_size e
  | frz ob u => obtain ⟨e, _⟩ := x; exact Heap.lt_size e
  | tbl ps => exact Heap.lt_size (show h.get? a = some _ from x)
  | met f y => exact Heap.lt_size (show h.get? a = some _ from x)
  | ext φ => obtain ⟨_, ⟨_, e⟩, _⟩ := x; exact Heap.lt_size e
theorem Paired.mapP {α β : Type} {F G : α → β → Prop} : ∀ {l₁ : List α} {l₂ : List β}, Paired F l₁ l₂ → (∀ a b, F a b → G a b) → Paired G l₁ l₂
  | _, _, .nil, _ => .nil
  | _, _, .cons r t, f => .cons (f _ _ r) (Paired.mapP t f)
theorem ObjOk.stay (x : ObjOk P w H h a o) (k : ∀ b u, (b = a ∨ H b = some (.own a)) → h.get? b = some u → h'.get? b = some u)
    (ho : ∀ b, H b = some (.own a) → H' b = some (.own a)) (ht : ∀ b xs, H b = some (.tup xs) → H' b = some (.tup xs)) : ObjOk P w H' h' a o := by
  induction o with
  | lst xs => obtain ⟨z, its, n, r, e⟩ := x; exact ⟨z, its, n, r, k _ _ (.inl rfl) e⟩
  | tup xs => obtain ⟨z, its, r, ob, e, c⟩ := x; exact ⟨z, its, r, ob, k _ _ (.inl rfl) e, c⟩
  | dK kvs => obtain ⟨z, y, vs, r, ob, es, ep, e, c⟩ := x; exact ⟨z, y, vs, r, ob, es, ep, k _ _ (.inl rfl) e, c⟩
  | dT kvs =>
    obtain ⟨z, y, xs, r, ob, es, ep, e, c⟩ := x
    exact ⟨z, y, xs, Paired.mapP r fun p q z => ⟨z.1, ht _ _ z.2.1, z.2.2⟩, ob, es, ep, k _ _ (.inl rfl) e, c⟩
  | set S n => obtain ⟨ob, es, ep, t, e, c⟩ := x; exact ⟨ob, es, ep, t, k _ _ (.inl rfl) e, c⟩
  | ins C dx fs =>
    obtain ⟨d, z, ne, e, mA, ⟨od, es, ep, e2, c⟩, r⟩ := x
    exact ⟨ho _ d, z, ne, k _ _ (.inl rfl) e, mA, ⟨od, es, ep, k _ _ (.inr d) e2, c⟩, r⟩
  | own y => obtain ⟨ob, e⟩ := x; exact ⟨ob, k _ _ (.inl rfl) e⟩
  | xd fs => obtain ⟨mA, ⟨od, es, ep, e, c⟩, r⟩ := x; exact ⟨mA, ⟨od, es, ep, k _ _ (.inl rfl) e, c⟩, r⟩
  | rng lo hi => obtain ⟨t, u, v, e⟩ := x; exact ⟨t, u, v, k _ _ (.inl rfl) e⟩
  | frz ob u ih => obtain ⟨e, q⟩ := x; exact ⟨k _ _ (.inl rfl) e, ih q⟩
  | tbl ps =>
    have e : h.get? a = some { cls := .none, data := .fields ps } := x
    show h'.get? a = some { cls := .none, data := .fields ps }
    exact k a _ (.inl rfl) e
  | met f y =>
    have e : h.get? a = some (PySem.W.methodObj (.ref f) (.ref y)) := x
    show h'.get? a = some (PySem.W.methodObj (.ref f) (.ref y))
    exact k a _ (.inl rfl) e
  | ext φ => obtain ⟨p, ⟨o, e⟩, st⟩ := x; exact ⟨st _ _ p fun o q => k _ _ (.inl rfl) q, ⟨o, k _ _ (.inl rfl) e⟩, st⟩
theorem HOk.lt (x : HOk P w H h) (e : H a = some o) : a < h.objs.size := (x a o e).lt
theorem HOk.fresh (x : HOk P w H h) (e : h.objs.size ≤ a) : H a = none := by
  cases q : H a with
  | none => rfl
  | some u => exact absurd (Nat.lt_of_lt_of_le (x.lt q) e) (Nat.lt_irrefl _)
theorem HOk.kept (x : HOk P w H h) (k : ∀ b u, h.get? b = some u → h'.get? b = some u) : HOk P w H h' := fun a o e =>
  (x a o e).stay (fun b u _ q => k b u q) (fun _ q => q) fun _ _ q => q
theorem HOk.laid (x : HOk P w H h) (k : ∀ b u, h.get? b = some u → h'.get? b = some u) (hp : h.objs.size ≤ a) (new : ObjOk P w (upd H a o) h' a o) : HOk P w (upd H a o) h' := fun b u e => by
  have hn := x.fresh hp
  by_cases hb : b = a
  · subst hb; rw [upd_same] at e; cases e; exact new
  · rw [upd_ne hb] at e
    exact (x b u e).stay (fun c v _ q => k c v q) (fun c q => by rw [upd_ne (ne_of_none q hn)]; exact q) fun c xs q => by rw [upd_ne (ne_of_none q hn)]; exact q
end
noncomputable def Rd (H : Hp) (a : Addr) (u : HO) : Prop := H a = some u ∨ ∃ o, H a = some (.frz o u)
theorem Rd.ok {P : Program} {w : World} {H : Hp} {h : Heap} {a : Addr} {u : HO} (r : Rd H a u) (x : HOk P w H h) : ObjOk P w H h a u := by
  rcases r with r | ⟨o, r⟩
  · exact x a u r
  · obtain ⟨_, q⟩ := x a _ r
    exact q
noncomputable def Mut : Option HO → Prop
  | some (.lst _) => True
  | some (.dK _) => True
  | some (.dT _) => True
  | some (.set _ _) => True
  | some (.ins _ _ _) => True
  | some (.ext _) => True
  | _ => False
section
variable {P : Program} {w : World} {H : Hp} {h h' : Heap} {x e : Addr} {o' : HO}
theorem HOk.write (ok : HOk P w H h) (mu : Mut (H x)) (he : e = x ∨ H e = some (.own x)) (k : ∀ b u, b ≠ e → h.get? b = some u → h'.get? b = some u) (heo : ∃ u, h'.get? e = some u)
    (new : ObjOk P w (upd H x o') h' x o') : HOk P w (upd H x o') h' := fun b u q => by
  have nown : ∀ c y, H c = some (.own y) → c ≠ x := fun c y r z => by subst z; rw [r] at mu; exact mu
  have ntup : ∀ c xs, H c = some (.tup xs) → c ≠ x := fun c xs r z => by subst z; rw [r] at mu; exact mu
  by_cases hb : b = x
  · subst hb; rw [upd_same] at q; cases q; exact new
  · rw [upd_ne hb] at q
    by_cases hbe : b = e
    · have q' : H b = some (.own x) := by
        rcases he with z | z
        · exact absurd (hbe.trans z) hb
        · rw [hbe]; exact z
      rw [q] at q'; cases q'
      obtain ⟨v, hv⟩ := heo
      exact ⟨v, by rw [hbe]; exact hv⟩
    · refine (ok b u q).stay (fun c v hc r => k c v ?_ r) (fun c r => by rw [upd_ne (nown c b r)]; exact r) fun c xs r => by rw [upd_ne (ntup c xs r)]; exact r
      rcases hc with rfl | hc
      · exact hbe
      · rintro rfl
        rcases he with z | z
        · exact nown c b hc z
        · rw [hc] at z; cases z; exact hb rfl
end
structure Un (fs ex : List Addr) (H H' : Hp) (h h' : Heap) : Prop where
  keep : ∀ b o, h.get? b = some o → H b = none → b ∉ fs → b ∉ ex → h'.get? b = some o
  slot : ∀ b o, h.get? b = some o → H b = none → b ∈ fs → b ∉ ex → ∃ sl, h'.get? b = some { o with slots := sl }
  free : ∀ b o, h.get? b = some o → H b = none → b ∉ ex → H' b = none
  there : ∀ b o, h.get? b = some o → b ∉ ex → ∃ o', h'.get? b = some o'
  tups : ∀ b xs, H b = some (.tup xs) → H' b = some (.tup xs)
  frzs : ∀ b o u, H b = some (.frz o u) → H' b = some (.frz o u)
  tbls : ∀ b ps, H b = some (.tbl ps) → ∃ more, H' b = some (.tbl (ps ++ more))
section
variable {fs fs' ex ex' : List Addr} {H H1 H2 : Hp} {h h1 h2 h' : Heap} {a x e : Addr} {o : HO}
theorem Un.any (u : Un fs ex H H1 h h1) {b : Addr} {ob : Obj} (q : h.get? b = some ob) (n : H b = none) (hx : b ∉ ex) : ∃ sl, h1.get? b = some { ob with slots := sl } := by
  by_cases hb : b ∈ fs
  · exact u.slot b ob q n hb hx
  · exact ⟨ob.slots, u.keep b ob q n hb hx⟩
theorem Un.kept (k : ∀ b u, h.get? b = some u → h'.get? b = some u) : Un fs ex H H h h' :=
  ⟨fun b ob q _ _ _ => k b ob q, fun b ob q _ _ _ => ⟨ob.slots, k b ob q⟩, fun _ _ _ n _ => n, fun b ob q _ => ⟨ob, k b ob q⟩, fun _ _ q => q, fun _ _ _ q => q, fun _ ps q => ⟨#[], by rw [q]; simp⟩⟩
theorem Un.refl : Un fs ex H H h h := Un.kept fun _ _ q => q
theorem Un.laid (k : ∀ b u, h.get? b = some u → h'.get? b = some u) (hp : h.objs.size ≤ a) (hn : H a = none) : Un fs ex H (upd H a o) h h' where
  keep := fun b u q _ _ _ => k b u q
  slot := fun b u q _ _ _ => ⟨u.slots, k b u q⟩
  free := fun b u q n _ => by rw [upd_ne (Nat.ne_of_lt (Nat.lt_of_lt_of_le (Heap.lt_size q) hp))]; exact n
  there := fun b u q _ => ⟨u, k b u q⟩
  tups := fun b xs q => by rw [upd_ne (ne_of_none q hn)]; exact q
  frzs := fun b u xs q => by rw [upd_ne (ne_of_none q hn)]; exact q
  tbls := fun b ps q => ⟨#[], by rw [upd_ne (ne_of_none q hn), q]; simp⟩
theorem Un.write (mu : Mut (H x)) (he : e = x ∨ H e = some (.own x)) (k : ∀ b u, b ≠ e → h.get? b = some u → h'.get? b = some u) (heo : ∃ u, h'.get? e = some u) : Un fs ex H (upd H x o) h h' := by
  have hx : ∀ b, H b = none → b ≠ x := fun b n z => by subst z; rw [n] at mu; exact mu
  have hb : ∀ b, H b = none → b ≠ e := fun b n z => by
    subst z
    rcases he with r | r
    · exact hx b n r
    · rw [n] at r; cases r
  have hm : ∀ b u, H b = some u → ¬ Mut (some u) → b ≠ x := fun b u q nm z => by subst z; rw [q] at mu; exact nm mu
  refine ⟨fun b u q n _ _ => k b u (hb b n) q, fun b u q n _ _ => ⟨u.slots, k b u (hb b n) q⟩, fun b u q n _ => by rw [upd_ne (hx b n)]; exact n, fun b u q _ => ?_,
    fun b xs q => by rw [upd_ne (hm b _ q fun z => z)]; exact q, fun b u xs q => by rw [upd_ne (hm b _ q fun z => z)]; exact q, fun b ps q => ⟨#[], by rw [upd_ne (hm b _ q fun z => z), q]; simp⟩⟩
  by_cases hbe : b = e
  · subst hbe; exact heo
  · exact ⟨u, k b u hbe q⟩
end
noncomputable def trk (h : Heap) (H : Hp) : List Addr := (List.range h.objs.size).filter fun a => (H a).isSome
noncomputable def hidT (h : Heap) (H : Hp) : Heap := PySem.W.hideAll h (trk h H)
theorem hidT_size (h : Heap) (H : Hp) : (hidT h H).objs.size = h.objs.size := PySem.W.hideAll_size _ _
theorem hidT_get {h : Heap} {H : Hp} {b : Addr} {o : Obj} (e : h.get? b = some o) (n : H b = none) : (hidT h H).get? b = some o :=
  PySem.W.hideAll_get _ e fun hm => by
    have q : (H b).isSome = true := (List.mem_filter.mp hm).2
    rw [n] at q; simp at q
theorem of_hidT {h : Heap} {H : Hp} {b : Addr} {o : Obj} (e : (hidT h H).get? b = some o) : h.get? b = some o ∧ H b = none := by
  have e' : h.get? b = some o := PySem.W.of_hideAll (trk h H) e
  refine ⟨e', ?_⟩
  cases q : H b with
  | none => rfl
  | some x =>
    have hm : b ∈ trk h H := List.mem_filter.mpr ⟨List.mem_range.mpr (Heap.lt_size e'), by simp [q]⟩
    have z : (hidT h H).get? b = none := PySem.W.hideAll_none (trk h H) hm
    rw [z] at e; cases e
end L2
namespace L2
open PySem PySem.Spec PyProof.Rows
structure Mod (K : PySem.W.Frag) (mg : Str → Option Value) (base : Heap) : Prop where
  kin : K.In base
  glob : base.Ns mainGlobals mg
  blt : ∃ mb, base.Ns builtinsNs mb ∧ ∀ x : Str, x ≠ "__name__" → mb x = bootBuiltins x
  nolimit : base.NoLimit
set_option genInjectivity false in
structure Cx where
  prog : Program
  w : World
  K : PySem.W.Frag
  mg : Str → Option Value
  base : Heap
  A : Around
  N : List Str
  s₀ : Shared
  H₀ : Hp
  env : Env
  outer : List Env
  stack : List Env
  ex : List Addr
  fn : Str → Bool
  calm : Bool
  pn : List (Addr × Obj)
  xe : Value → Shared → Prop
noncomputable def frs (l : List Env) : List Addr := l.filterMap (·.frame)
noncomputable abbrev Cx.fs (X : Cx) : List Addr := frs X.outer
noncomputable def Vis (sc : Scope) (x : Str) : Prop := sc.names.lookup x = some .local ∨ sc.names.lookup x = some .cell ∨ sc.names.lookup x = some .free
noncomputable def Loc (sc : Scope) (x : Str) : Prop := sc.names.lookup x = some .local ∨ sc.names.lookup x = some .cell
noncomputable def Look (env : Env) (h : Heap) (m : Str → Option Value) (x : Str) (u : Value) : Prop :=
  (env.kindOf x = some .local ∧ m x = some u) ∨ ((env.kindOf x = some .cell ∨ env.kindOf x = some .free) ∧ ∃ c, env.cells.lookup x = some c ∧ h.IsCell c (some u))
set_option genInjectivity false in
structure Cx.Ok (X : Cx) : Prop where
  mod : Mod X.K X.mg X.base
  kind : X.env.scope.kind = .function
  glob : X.env.globals = mainGlobals
  blt : X.env.builtins = builtinsNs
  above : X.s₀.heap.objs.size ≤ X.env.locals
  inj : ∀ x y c, X.env.cells.lookup x = some c → X.env.cells.lookup y = some c → x = y
  has : ∀ x, (X.env.kindOf x = some .cell ∨ X.env.kindOf x = some .free) → ∃ c, X.env.cells.lookup x = some c
  cab : ∀ x c, X.fn x = true → X.env.cells.lookup x = some c → X.s₀.heap.objs.size ≤ c
  hd : X.calm = true → X.A.handled = none
  frames : X.A.frames = some X.stack
  stk : X.stack = X.outer ∨ (X.stack = X.env :: X.outer ∧ X.env.frame = some X.env.locals)
  exf : ∀ b ∈ X.ex, b ≠ X.env.locals ∧ ∀ x c, X.env.cells.lookup x = some c → c ≠ b
  bs : ∀ b o, X.base.get? b = some o → X.s₀.heap.get? b = some o ∧ X.H₀ b = none
  bsz : X.base.objs.size ≤ X.s₀.heap.objs.size
  noex : ∀ b o, X.base.get? b = some o → b ∉ X.ex
  exfs : ∀ b ∈ X.ex, b ∉ X.fs
  funs : X.s₀.heap.FunFrames X.base X.outer
  frf : ∀ b ∈ X.fs, X.H₀ b = none
structure Inv (X : Cx) (pins : List (Addr × Obj)) (σ : List (Option V)) (H : Hp) (s : Shared) : Prop where
  ok : X.Ok
  os : s.os = X.s₀.os
  bare : AllBare s.gens
  base : Un X.fs X.ex X.H₀ H X.s₀.heap s.heap
  loc : ∃ m, s.heap.Ns X.env.locals m ∧ ∀ (i : Nat) (x : Str) (v : V), X.N[i]? = some x → σ[i]? = some (some v) → Vis X.env.scope x → ∃ u, RelV v u ∧ Look X.env s.heap m x u
  cell : ∀ x c, X.env.cells.lookup x = some c → ∃ v, s.heap.IsCell c v
  free : H X.env.locals = none
  freeC : ∀ x c, X.env.cells.lookup x = some c → H c = none
  pin : ∀ p ∈ X.pn ++ pins, s.heap.get? p.1 = some p.2 ∧ H p.1 = none ∧ p.1 ≠ X.env.locals ∧ p.1 ∉ X.fs ∧ ∀ v, p.2.data ≠ .cell v
  hok : HOk X.prog X.w H s.heap
  len : σ.length = X.N.length
section
variable {X : Cx} {pins : List (Addr × Obj)} {σ : List (Option V)} {H H' : Hp} {s : Shared} {h' : Heap}
theorem Cx.Ok.nofr (ok : X.Ok) {b : Addr} {o : Obj} (e : X.base.get? b = some o) : b ∉ X.fs := fun hb => by
  have := (ok.funs.mem hb).1
  rw [e] at this; cases this
theorem Inv.bs (I : Inv X pins σ H s) : ∀ b o, X.base.get? b = some o → s.heap.get? b = some o ∧ H b = none := fun b o e =>
  ⟨I.base.keep b o (I.ok.bs b o e).1 (I.ok.bs b o e).2 (I.ok.nofr e) (I.ok.noex b o e), I.base.free b o (I.ok.bs b o e).1 (I.ok.bs b o e).2 (I.ok.noex b o e)⟩
theorem Inv.bk (I : Inv X pins σ H s) : ∀ b o, X.base.get? b = some o → s.heap.get? b = some o := fun b o e => (I.bs b o e).1
theorem Inv.mod (I : Inv X pins σ H s) : Mod X.K X.mg X.base := I.ok.mod
theorem Inv.kIn (I : Inv X pins σ H s) : X.K.In s.heap := I.ok.mod.kin.keeps I.bk
theorem Inv.fr (I : Inv X pins σ H s) : ∃ m, Fr X.base X.env.locals s.heap m :=
  let ⟨m, hn, _⟩ := I.loc
  ⟨m, hn, I.bk, Nat.le_trans I.ok.bsz I.ok.above⟩
theorem Inv.lt (I : Inv X pins σ H s) : X.env.locals < s.heap.objs.size := let ⟨_, hn, _⟩ := I.loc; hn.lt
theorem Inv.sz (I : Inv X pins σ H s) : X.s₀.heap.objs.size ≤ s.heap.objs.size := Nat.le_trans I.ok.above (Nat.le_of_lt I.lt)
theorem Inv.nofs (I : Inv X pins σ H s) {a : Addr} (h : s.heap.objs.size ≤ a) : a ∉ X.fs := fun hb => by
  obtain ⟨_, o, ho, _⟩ := I.ok.funs.mem hb
  exact absurd (Nat.lt_of_lt_of_le (Heap.lt_size ho) (Nat.le_trans I.sz h)) (Nat.lt_irrefl _)
theorem Inv.cne (I : Inv X pins σ H s) : ∀ x c, X.env.cells.lookup x = some c → c ≠ X.env.locals := fun x c e z => by
  obtain ⟨v, o, ho, hd⟩ := I.cell x c e
  obtain ⟨m, ⟨o', es, ep, ho', hd', _⟩, _⟩ := I.loc
  rw [z, ho'] at ho; cases ho; rw [hd'] at hd; cases hd
theorem Inv.funs (I : Inv X pins σ H s) : s.heap.FunFrames X.base X.outer := by
  have all : ∀ (l : List Env), (∀ b ∈ frs l, b ∈ X.fs) → X.s₀.heap.FunFrames X.base l → s.heap.FunFrames X.base l := by
    intro l
    induction l with
    | nil => intro _ _; trivial
    | cons env r ih =>
      intro hs hl
      obtain ⟨hk, ⟨L, o, hf, hn, ho, hd⟩, hr⟩ := hl
      have hL : L ∈ X.fs := hs L (by unfold frs; rw [List.filterMap_cons, hf]; exact List.mem_cons_self)
      obtain ⟨sl, e⟩ := I.base.slot L o ho (I.ok.frf L hL) hL fun z => I.ok.exfs L z hL
      exact ⟨hk, ⟨L, _, hf, hn, e, hd⟩, ih (fun b hb => hs b (by unfold frs; rw [List.filterMap_cons, hf]; exact List.mem_cons_of_mem _ hb)) hr⟩
  exact all X.outer (fun _ hb => hb) I.ok.funs
theorem Inv.stack (I : Inv X pins σ H s) : s.heap.FunFrames X.base X.stack := by
  rcases I.ok.stk with e | ⟨e, hf⟩
  · rw [e]; exact I.funs
  · rw [e]
    obtain ⟨m, hn, _⟩ := I.loc
    refine .cons (by rw [I.ok.kind]; decide) hf hn ?_ I.funs
    exact Heap.get?_none_of_le (Nat.le_trans I.ok.bsz I.ok.above)
theorem Inv.stkSub (I : Inv X pins σ H s) : ∀ b ∈ frs X.stack, b ∈ X.env.locals :: X.fs := fun b hb => by
  rcases I.ok.stk with e | ⟨e, hf⟩
  · rw [e] at hb; exact List.mem_cons_of_mem _ hb
  · rw [e] at hb
    unfold frs at hb
    rw [List.filterMap_cons, hf] at hb
    exact hb
theorem Inv.stkFree (I : Inv X pins σ H s) : ∀ b ∈ frs X.stack, H b = none := fun b hb => by
  rcases List.mem_cons.mp (I.stkSub b hb) with e | hb
  · rw [e]; exact I.free
  · obtain ⟨_, o, ho, _⟩ := I.ok.funs.mem hb
    exact I.base.free b o ho (I.ok.frf b hb) fun z => I.ok.exfs b z hb
theorem Inv.step {g' : Array GenState} {t' : Nat} {d' : Drawn} {ch : List Addr} (I : Inv X pins σ H s)
    (hch : ∀ b ∈ ch, (b ∈ X.ex ∨ X.s₀.heap.objs.size ≤ b) ∧ b ≠ X.env.locals ∧ (∀ x c, X.env.cells.lookup x = some c → c ≠ b) ∧ ∀ p ∈ X.pn ++ pins, p.1 ≠ b)
    (keep : ∀ b o, b ≠ X.env.locals → b ∉ X.fs → b ∉ ch → s.heap.get? b = some o → H b = none → h'.get? b = some o)
    (slot : ∀ b o, b ≠ X.env.locals → b ∈ X.fs → b ∉ ch → s.heap.get? b = some o → H b = none → ∃ sl, h'.get? b = some { o with slots := sl }) (free : ∀ b o, b ∉ ch → s.heap.get? b = some o → H b = none → H' b = none)
    (there : ∀ b o, b ∉ ch → s.heap.get? b = some o → ∃ o', h'.get? b = some o')
    (tups : ∀ b xs, H b = some (.tup xs) → H' b = some (.tup xs)) (frzs : ∀ b o u, H b = some (.frz o u) → H' b = some (.frz o u)) (tbls : ∀ b ps, H b = some (.tbl ps) → ∃ more, H' b = some (.tbl (ps ++ more)))
    (ns : ∀ m, s.heap.Ns X.env.locals m → h'.Ns X.env.locals m) (hok : HOk X.prog X.w H' h') (hg : AllBare g') :
    Inv X pins σ H' { s with heap := h', gens := g', drawn := d', toks := t' } := by
  have neL : ∀ b o, X.s₀.heap.get? b = some o → b ≠ X.env.locals := fun b o e => Nat.ne_of_lt (Nat.lt_of_lt_of_le (Heap.lt_size e) I.ok.above)
  have neC : ∀ b o, X.s₀.heap.get? b = some o → b ∉ X.ex → b ∉ ch := fun b o e hx hb => by
    rcases (hch b hb).1 with z | z
    · exact hx z
    · exact absurd (Nat.lt_of_lt_of_le (Heap.lt_size e) z) (Nat.lt_irrefl _)
  have cellK : ∀ x c, X.env.cells.lookup x = some c → ∀ v, s.heap.IsCell c v → h'.IsCell c v := fun x c e v ⟨o, ho, hd⟩ => by
    have nch : c ∉ ch := fun z => (hch c z).2.2.1 x c e rfl
    by_cases hc : c ∈ X.fs
    · obtain ⟨sl, q⟩ := slot c o (I.cne x c e) hc nch ho (I.freeC x c e)
      exact ⟨_, q, hd⟩
    · exact ⟨o, keep c o (I.cne x c e) hc nch ho (I.freeC x c e), hd⟩
  refine ⟨I.ok, I.os, hg, ⟨fun b o e n hb hx => ?_, fun b o e n hb hx => ?_, fun b o e n hx => ?_, fun b o e hx => ?_, fun b xs e => tups b xs (I.base.tups b xs e), fun b o xs e => frzs b o xs (I.base.frzs b o xs e), fun b ps e => ?_⟩, ?_, fun x c e => ?_, ?_, fun x c e => ?_, fun p hp => ?_, hok, I.len⟩
  · exact keep b o (neL b o e) hb (neC b o e hx) (I.base.keep b o e n hb hx) (I.base.free b o e n hx)
  · obtain ⟨sl, e1⟩ := I.base.slot b o e n hb hx
    obtain ⟨sl', e2⟩ := slot b _ (neL b o e) hb (neC b o e hx) e1 (I.base.free b o e n hx)
    exact ⟨sl', e2⟩
  · obtain ⟨o', e1⟩ := I.base.there b o e hx
    exact free b o' (neC b o e hx) e1 (I.base.free b o e n hx)
  · obtain ⟨o', e1⟩ := I.base.there b o e hx
    exact there b o' (neC b o e hx) e1
  · obtain ⟨m1, e1⟩ := I.base.tbls b ps e
    obtain ⟨m2, e2⟩ := tbls b _ e1
    exact ⟨m1 ++ m2, by rw [e2, Array.append_assoc]⟩
  · obtain ⟨m, hn, hl⟩ := I.loc
    refine ⟨m, ns m hn, fun i x v e1 e2 e3 => ?_⟩
    obtain ⟨u, r, l⟩ := hl i x v e1 e2 e3
    refine ⟨u, r, ?_⟩
    rcases l with l | ⟨k, c, e, z⟩
    · exact .inl l
    · exact .inr ⟨k, c, e, cellK x c e _ z⟩
  · obtain ⟨v, z⟩ := I.cell x c e
    exact ⟨v, cellK x c e v z⟩
  · obtain ⟨m, ⟨o, _, _, ho, _⟩, _⟩ := I.loc
    exact free _ o (fun z => (hch _ z).2.1 rfl) ho I.free
  · obtain ⟨v, o, ho, hd⟩ := I.cell x c e
    exact free c o (fun z => (hch c z).2.2.1 x c e rfl) ho (I.freeC x c e)
  · obtain ⟨e, n, ne, nf, d⟩ := I.pin p hp
    have nch : p.1 ∉ ch := fun z => (hch p.1 z).2.2.2 p hp rfl
    exact ⟨keep p.1 p.2 ne nf nch e n, free p.1 p.2 nch e n, ne, nf, d⟩
theorem Inv.un {t' : Nat} (I : Inv X pins σ H s) (u : Un X.fs [] H H' s.heap h') (hok : HOk X.prog X.w H' h') : Inv X pins σ H' { s with heap := h', toks := t' } := by
  obtain ⟨m, ⟨o, es, ep, ho, r⟩, _⟩ := id I.loc
  obtain ⟨sl, hL⟩ := u.any ho I.free (by simp)
  exact I.step (g' := s.gens) (d' := s.drawn) (ch := []) (fun _ z => nomatch z) (fun b o _ hb _ e n => u.keep b o e n hb (by simp)) (fun b o _ hb _ e n => u.slot b o e n hb (by simp)) (fun b o _ e n => u.free b o e n (by simp)) (fun b o _ e => u.there b o e (by simp)) u.tups u.frzs u.tbls (fun m' hm => by
    obtain ⟨o', es', ep', ho', r'⟩ := hm
    rw [ho] at ho'; cases ho'
    exact ⟨_, es', ep', hL, r'⟩) hok I.bare
theorem Inv.call {g' : Array GenState} {t' : Nat} {d' : Drawn} {ch : List Addr} (I : Inv X pins σ H s) (u : Un (frs X.stack) ch H H' s.heap h') (hok : HOk X.prog X.w H' h') (hg : AllBare g')
    (hch : ∀ b ∈ ch, (b ∈ X.ex ∨ X.s₀.heap.objs.size ≤ b) ∧ b ≠ X.env.locals ∧ (∀ x c, X.env.cells.lookup x = some c → c ≠ b) ∧ ∀ p ∈ X.pn ++ pins, p.1 ≠ b) :
    Inv X pins σ H' { s with heap := h', gens := g', drawn := d', toks := t' } := by
  obtain ⟨m, ⟨o, es, ep, ho, r⟩, _⟩ := id I.loc
  obtain ⟨sl, hL⟩ := u.any ho I.free fun z => (hch _ z).2.1 rfl
  exact I.step (ch := ch) hch (fun b o hL hb hc e n => u.keep b o e n (fun z => (List.mem_cons.mp (I.stkSub b z)).elim hL hb) hc) (fun b o _ _ hc e n => u.any e n hc) (fun b o hc e n => u.free b o e n hc) (fun b o hc e => u.there b o e hc) u.tups u.frzs u.tbls (fun m' hm => by
    obtain ⟨o', es', ep', ho', r'⟩ := hm
    rw [ho] at ho'; cases ho'
    exact ⟨_, es', ep', hL, r'⟩) hok hg
theorem Inv.turned {t' : Nat} {it : Addr} (I : Inv X pins σ H s) (k : ∀ b o, b ≠ it → s.heap.get? b = some o → h'.get? b = some o) (hn : H it = none) (hL : it ≠ X.env.locals)
    (h1 : it ∈ X.ex ∨ X.s₀.heap.objs.size ≤ it) (h2 : ∀ x c, X.env.cells.lookup x = some c → c ≠ it) (h3 : ∀ p ∈ X.pn ++ pins, p.1 ≠ it) : Inv X pins σ H { s with heap := h', toks := t' } := by
  have nit : ∀ b u, H b = some u → b ≠ it := fun b u e z => by rw [z, hn] at e; cases e
  refine I.step (g' := s.gens) (d' := s.drawn) (ch := [it]) (fun b hb => ?_) (fun b o _ _ hc e _ => k b o (fun z => hc (by simp [z])) e) (fun b o _ _ hc e _ => ⟨o.slots, k b o (fun z => hc (by simp [z])) e⟩) (fun _ _ _ _ n => n)
    (fun b o hc e => ⟨o, k b o (fun z => hc (by simp [z])) e⟩) (fun _ _ e => e) (fun _ _ _ e => e) (fun b ps e => ⟨#[], by rw [e]; simp⟩) (fun m hm => ?_) (fun b u e => ?_) I.bare
  · have e : b = it := by simpa using hb
    subst e
    exact ⟨h1, hL, h2, h3⟩
  · obtain ⟨o, es, ep, ho, r⟩ := hm
    exact ⟨o, es, ep, k _ o (Ne.symm hL) ho, r⟩
  · refine (I.hok b u e).stay (fun c v hc q => k c v ?_ q) (fun _ q => q) fun _ _ q => q
    rcases hc with z | z
    · rw [z]; exact nit b u e
    · exact nit c _ z
theorem Inv.tok (I : Inv X pins σ H s) (t : Nat) : Inv X pins σ H { s with toks := t } := I.un (h' := s.heap) (t' := t) Un.refl I.hok
theorem Inv.kept {t' : Nat} (I : Inv X pins σ H s) (k : ∀ b u, s.heap.get? b = some u → h'.get? b = some u) : Inv X pins σ H { s with heap := h', toks := t' } := I.un (Un.kept k) (I.hok.kept k)
theorem Inv.laid {a : Addr} {o : HO} {t' : Nat} (I : Inv X pins σ H s) (k : ∀ b u, s.heap.get? b = some u → h'.get? b = some u) (hp : s.heap.objs.size ≤ a) (new : ObjOk X.prog X.w (upd H a o) h' a o) :
    Inv X pins σ (upd H a o) { s with heap := h', toks := t' } := I.un (Un.laid k hp (I.hok.fresh hp)) (I.hok.laid k hp new)
theorem Inv.write {x e : Addr} {o : HO} {t' : Nat} (I : Inv X pins σ H s) (mu : Mut (H x)) (he : e = x ∨ H e = some (.own x)) (k : ∀ b u, b ≠ e → s.heap.get? b = some u → h'.get? b = some u) (heo : ∃ u, h'.get? e = some u)
    (new : ObjOk X.prog X.w (upd H x o) h' x o) : Inv X pins σ (upd H x o) { s with heap := h', toks := t' } := I.un (Un.write mu he k heo) (I.hok.write mu he k heo new)
theorem Inv.weak {σ' : List (Option V)} (I : Inv X pins σ H s) (hl : σ'.length = σ.length) (w : ∀ (i : Nat) v, σ'[i]? = some (some v) → σ[i]? = some (some v)) : Inv X pins σ' H s :=
  ⟨I.ok, I.os, I.bare, I.base, let ⟨m, hn, hl'⟩ := I.loc; ⟨m, hn, fun i x v e1 e2 e3 => hl' i x v e1 (w i v e2) e3⟩, I.cell, I.free, I.freeC, I.pin, I.hok, hl.trans I.len⟩
theorem Inv.pins_of {pins' : List (Addr × Obj)} (I : Inv X pins σ H s) (h : ∀ p ∈ pins', s.heap.get? p.1 = some p.2 ∧ H p.1 = none ∧ p.1 ≠ X.env.locals ∧ p.1 ∉ X.fs ∧ ∀ v, p.2.data ≠ .cell v) : Inv X pins' σ H s :=
  ⟨I.ok, I.os, I.bare, I.base, I.loc, I.cell, I.free, I.freeC, fun p hp => (List.mem_append.mp hp).elim (fun z => I.pin p (List.mem_append_left _ z)) (h p), I.hok, I.len⟩
theorem nodup_ix {N : List Str} (hN : N.Nodup) {i j : Nat} {x : Str} (a : N[i]? = some x) (b : N[j]? = some x) : i = j := by
  obtain ⟨h1, e1⟩ := List.getElem?_eq_some_iff.mp a
  obtain ⟨h2, e2⟩ := List.getElem?_eq_some_iff.mp b
  exact (List.getElem_inj hN).mp (e1.trans e2.symm)
theorem store_ok2 {M : Model} {A : Around} {E : Value → Shared → Prop} {i : Nat} {x : Str} {v : V} {u : Value} {Q : Unit → Shared → Prop} (I : Inv X pins σ H s) (hN : X.N.Nodup) (hi : X.N[i]? = some x) (hx : Loc X.env.scope x) (r : RelV v u)
    (h : ∀ s', Inv X pins (σ.set i (some v)) H s' → (∃ a, Heap.SameBut a s.heap s'.heap ∧ (a = X.env.locals ∨ X.env.cells.lookup x = some a)) → Q () s') (hf : X.fn x = true ∨ X.env.scope.names.lookup x = some .local := by first | exact .inl rfl | exact .inr rfl | assumption) : wpAny M A (storeName X.env x u) Q E s := by
  obtain ⟨m, hn, hl⟩ := id I.loc
  have hcls : (X.env.scope.kind == .class || (X.env.scope.kind == .module && X.env.locals != X.env.globals)) = false := by rw [I.ok.kind]; rfl
  have hiσ : i < σ.length := by rw [I.len]; exact (List.getElem?_eq_some_iff.mp hi).1
  have cne := I.cne
  have tracked : ∀ {a : Addr} {h' : Heap}, (∃ o, s.heap.get? a = some o ∧ H a = none) → Heap.SameBut a s.heap h' → HOk X.prog X.w H h' := fun {a h'} ha hs b ob e => by
    obtain ⟨_, _, hfree⟩ := ha
    refine (I.hok b ob e).stay (fun c w' hc q => (hs.2 c ?_).trans q) (fun _ q => q) fun _ _ q => q
    rintro rfl
    rcases hc with rfl | hc
    · rw [hfree] at e; cases e
    · rw [hfree] at hc; cases hc
  rcases hx with hk | hk
  · refine wpAny_storeName_local hk hn (fun h' hn' hs => ?_) hcls
    obtain ⟨oL, _, _, hoL, _⟩ := id hn
    refine h _ ⟨I.ok, I.os, I.bare, ⟨fun b o e n hb hx => ?_, fun b o e n hb hx => ?_, I.base.free, fun b o e hx => ?_, I.base.tups, I.base.frzs, I.base.tbls⟩, ⟨_, hn', fun j y v' e1 e2 e3 => ?_⟩, fun y c e => ?_, I.free, I.freeC, fun p hp => ?_, tracked ⟨oL, hoL, I.free⟩ hs, by simpa using I.len⟩ ⟨_, hs, .inl rfl⟩
    · exact (hs.2 b (Nat.ne_of_lt (Nat.lt_of_lt_of_le (Heap.lt_size e) I.ok.above))).trans (I.base.keep b o e n hb hx)
    · obtain ⟨sl, e1⟩ := I.base.slot b o e n hb hx
      exact ⟨sl, (hs.2 b (Nat.ne_of_lt (Nat.lt_of_lt_of_le (Heap.lt_size e) I.ok.above))).trans e1⟩
    · obtain ⟨o', e1⟩ := I.base.there b o e hx
      exact ⟨o', (hs.2 b (Nat.ne_of_lt (Nat.lt_of_lt_of_le (Heap.lt_size e) I.ok.above))).trans e1⟩
    · by_cases hj : j = i
      · subst hj
        rw [hi] at e1; cases e1
        rw [List.getElem?_set_self hiσ] at e2
        cases e2
        exact ⟨u, r, .inl ⟨hk, by simp⟩⟩
      · rw [List.getElem?_set_ne (Ne.symm hj)] at e2
        obtain ⟨u', r', q⟩ := hl j y v' e1 e2 e3
        refine ⟨u', r', ?_⟩
        rcases q with ⟨k, e⟩ | ⟨k, c, e, z⟩
        · refine .inl ⟨k, ?_⟩
          have : y ≠ x := fun e => hj (nodup_ix hN e1 (e ▸ hi))
          simp [this, e]
        · exact .inr ⟨k, c, e, z.sameBut hs (cne y c e)⟩
    · obtain ⟨w', z⟩ := I.cell y c e
      exact ⟨w', z.sameBut hs (cne y c e)⟩
    · obtain ⟨e, n, ne, nf, d⟩ := I.pin p hp
      exact ⟨(hs.2 p.1 ne).trans e, n, ne, nf, d⟩
  · have hfn : X.fn x = true := by
      rcases hf with z | z
      · exact z
      · rw [z] at hk; cases hk
    obtain ⟨c, hc⟩ := I.ok.has x (.inl hk)
    obtain ⟨w', z⟩ := I.cell x c hc
    refine wpAny_storeName_cell I.ok.kind hk hc z (fun h' hc' hs => ?_)
    obtain ⟨oc, hoc, hocd⟩ := id z
    refine h { s with heap := h' } ⟨I.ok, I.os, I.bare, ⟨fun b o e n hb hx => ?_, fun b o e n hb hx => ?_, I.base.free, fun b o e hx => ?_, I.base.tups, I.base.frzs, I.base.tbls⟩, ⟨m, hn.sameBut hs (Ne.symm (cne x c hc)), fun j y v' e1 e2 e3 => ?_⟩, fun y c' e => ?_, I.free, I.freeC, fun p hp => ?_, tracked ⟨oc, hoc, I.freeC x c hc⟩ hs, by simpa using I.len⟩ ⟨c, hs, .inr hc⟩
    · exact (hs.2 b (Nat.ne_of_lt (Nat.lt_of_lt_of_le (Heap.lt_size e) (I.ok.cab x c hfn hc)))).trans (I.base.keep b o e n hb hx)
    · obtain ⟨sl, e1⟩ := I.base.slot b o e n hb hx
      exact ⟨sl, (hs.2 b (Nat.ne_of_lt (Nat.lt_of_lt_of_le (Heap.lt_size e) (I.ok.cab x c hfn hc)))).trans e1⟩
    · obtain ⟨o', e1⟩ := I.base.there b o e hx
      exact ⟨o', (hs.2 b (Nat.ne_of_lt (Nat.lt_of_lt_of_le (Heap.lt_size e) (I.ok.cab x c hfn hc)))).trans e1⟩
    · by_cases hj : j = i
      · subst hj
        rw [hi] at e1; cases e1
        rw [List.getElem?_set_self hiσ] at e2
        cases e2
        exact ⟨u, r, .inr ⟨.inl hk, c, hc, hc'⟩⟩
      · rw [List.getElem?_set_ne (Ne.symm hj)] at e2
        obtain ⟨u', r', q⟩ := hl j y v' e1 e2 e3
        refine ⟨u', r', ?_⟩
        rcases q with q | ⟨k, c', e, z'⟩
        · exact .inl q
        · refine .inr ⟨k, c', e, z'.sameBut hs ?_⟩
          rintro rfl
          exact hj (nodup_ix hN e1 (I.ok.inj _ _ _ e hc ▸ hi))
    · by_cases hcc : c' = c
      · subst hcc; exact ⟨_, hc'⟩
      · obtain ⟨w2, z2⟩ := I.cell y c' e
        exact ⟨w2, z2.sameBut hs hcc⟩
    · obtain ⟨e, n, ne, nf, d⟩ := I.pin p hp
      refine ⟨(hs.2 p.1 ?_).trans e, n, ne, nf, d⟩
      intro q
      rw [q, hoc] at e
      have q' : oc = p.2 := Option.some.inj e
      exact d w' (by rw [← q']; exact hocd)
theorem store_ok {M : Model} {A : Around} {E : Value → Shared → Prop} {i : Nat} {x : Str} {v : V} {u : Value} {Q : Unit → Shared → Prop} (I : Inv X pins σ H s) (hN : X.N.Nodup) (hi : X.N[i]? = some x) (hx : Loc X.env.scope x) (r : RelV v u)
    (h : ∀ s', Inv X pins (σ.set i (some v)) H s' → Q () s') (hf : X.fn x = true ∨ X.env.scope.names.lookup x = some .local := by first | exact .inl rfl | exact .inr rfl | assumption) : wpAny M A (storeName X.env x u) Q E s :=
  store_ok2 I hN hi hx r (fun s' I' _ => h s' I') hf
theorem Inv.call' {s' : Shared} {ch : List Addr} (I : Inv X pins σ H s) (ho : s'.os = s.os) (u : Un (frs X.stack) ch H H' s.heap s'.heap) (hok : HOk X.prog X.w H' s'.heap) (hg : AllBare s'.gens)
    (hch : ∀ b ∈ ch, (b ∈ X.ex ∨ X.s₀.heap.objs.size ≤ b) ∧ b ≠ X.env.locals ∧ (∀ x c, X.env.cells.lookup x = some c → c ≠ b) ∧ ∀ p ∈ X.pn ++ pins, p.1 ≠ b) : Inv X pins σ H' s' := by
  obtain ⟨h', g', d', t', o'⟩ := s'
  have e : o' = s.os := ho
  subst e
  exact I.call (g' := g') (t' := t') (d' := d') u hok hg hch
end
noncomputable abbrev XK := Value → Option Addr → Hp → Prop
noncomputable abbrev St := List (Option V)
noncomputable abbrev VK := V → Hp → Prop
noncomputable abbrev TE := St → Hp → VK → Prop
noncomputable abbrev TT := St → Hp → (Bool → Hp → Prop) → Prop
noncomputable abbrev TA := St → Hp → (List V → Hp → Prop) → Prop
structure Ends where
  nx : St → Hp → Prop
  rt : VK
  bk : St → Hp → Prop := fun _ _ => False
  ct : St → Hp → Prop := fun _ _ => False
noncomputable abbrev TS := Ends → St → Hp → Prop
noncomputable def EP (X : Cx) (pins : List (Addr × Obj)) (σ : St) (Q : VK) (u : Value) (s' : Shared) : Prop := ∃ v H', Inv X pins σ H' s' ∧ RelV v u ∧ Q v H'
noncomputable def TP (X : Cx) (pins : List (Addr × Obj)) (σ : St) (Q : Bool → Hp → Prop) (b : Bool) (s' : Shared) : Prop := ∃ H', Inv X pins σ H' s' ∧ Q b H'
noncomputable def AP (X : Cx) (pins : List (Addr × Obj)) (σ : St) (Q : List V → Hp → Prop) (us : List Value) (s' : Shared) : Prop := ∃ vs H', Inv X pins σ H' s' ∧ Vals vs us ∧ Q vs H'
noncomputable def SP (X : Cx) (pins : List (Addr × Obj)) (D : Ends) (f : Flow) (s' : Shared) : Prop :=
  match f with
  | .next => ∃ σ' H', Inv X pins σ' H' s' ∧ D.nx σ' H'
  | .brk => ∃ σ' H', Inv X pins σ' H' s' ∧ D.bk σ' H'
  | .cont => ∃ σ' H', Inv X pins σ' H' s' ∧ D.ct σ' H'
  | .ret u => ∃ v σ' H', Inv X pins σ' H' s' ∧ RelV v u ∧ D.rt v H'
noncomputable def PE (X : Cx) (e : Expr) (t : TE) : Prop :=
  ∀ (pins : List (Addr × Obj)) (s : Shared) (σ : St) (H : Hp) (Q : VK), Inv X pins σ H s → t σ H Q → wpAny (model X.prog X.w) X.A (eval e X.env) (EP X pins σ Q) X.xe s
noncomputable def PT (X : Cx) (e : Expr) (t : TT) : Prop :=
  ∀ (pins : List (Addr × Obj)) (s : Shared) (σ : St) (H : Hp) (Q : Bool → Hp → Prop), Inv X pins σ H s → t σ H Q → wpAny (model X.prog X.w) X.A (isTrue e X.env (eval e X.env)) (TP X pins σ Q) X.xe s
noncomputable def PW (X : Cx) (e : Expr) (t : TT) : Prop :=
  ∀ (whole : Sem Value) (pins : List (Addr × Obj)) (s : Shared) (σ : St) (H : Hp) (Q : Bool → Hp → Prop), Inv X pins σ H s → t σ H Q → wpAny (model X.prog X.w) X.A (isTrue e X.env whole) (TP X pins σ Q) X.xe s
theorem PW.pt {X : Cx} {e : Expr} {t : TT} (h : PW X e t) : PT X e t := h _
noncomputable def PA (X : Cx) (es : List Expr) (t : TA) : Prop :=
  ∀ (pos : Pos) (pins : List (Addr × Obj)) (s : Shared) (σ : St) (H : Hp) (Q : List V → Hp → Prop), Inv X pins σ H s → t σ H Q → wpAny (model X.prog X.w) X.A (spliced (backTo pos (starEach es X.env))) (AP X pins σ Q) X.xe s
noncomputable def PS (X : Cx) (st : Stmt) (t : TS) : Prop :=
  ∀ (pins : List (Addr × Obj)) (s : Shared) (σ : St) (H : Hp) (D : Ends), Inv X pins σ H s → t D σ H → wpAny (model X.prog X.w) X.A (exec st X.env) (SP X pins D) X.xe s
noncomputable def PSs (X : Cx) (st : List Stmt) (t : TS) : Prop :=
  ∀ (pins : List (Addr × Obj)) (s : Shared) (σ : St) (H : Hp) (D : Ends), Inv X pins σ H s → t D σ H → wpAny (model X.prog X.w) X.A (execs st X.env) (SP X pins D) X.xe s
theorem thn {α : Type} {t : Sem α} {Q Q' : α → Shared → Prop} {M : Model} {A : Around} {E : Value → Shared → Prop} {s : Shared} (h : wpAny M A t Q E s) (hQ : ∀ a s, Q a s → Q' a s) : wpAny M A t Q' E s := wpAny_mono h hQ fun _ _ x => x
end L2
namespace L2
open PySem PySem.Spec PyProof.Rows
section
variable {X : Cx}
inductive tVar (i : Nat) (σ : St) (H : Hp) (Q : VK) : Prop
  | mk (v : V) (e : σ[i]? = some (some v)) (q : Q v H) : tVar i σ H Q
noncomputable def tC (v : V) : TE := fun _ H Q => Q v H
theorem pe_var {i : Nat} {x : Str} {pos : Pos} (hN : X.N[i]? = some x) (hv : Vis X.env.scope x) (hd : (x == ("__debug__" : Str)) = false := by decide) (hcd : (x == ("__classdict__" : Str)) = false := by decide) : PE X (.Name x pos) (tVar i) := by
  intro pins s σ H Q I h
  obtain ⟨v, e, h⟩ := h
  obtain ⟨m, hn, hl⟩ := I.loc
  obtain ⟨u, r, l⟩ := hl i x v hN e hv
  have fin : EP X pins σ Q u s := ⟨v, H, I, r, h⟩
  rcases l with ⟨hk, hm⟩ | ⟨hk, c, hc, hcell⟩
  · exact wpAny_Name (wpAny_loadName_local I.ok.kind hk hn hm fin) hd
  · rcases hk with hk | hk
    · exact wpAny_Name (wpAny_loadName_cell I.ok.kind hk hc hcell fin) hd
    · exact wpAny_Name (wpAny_loadName_free I.ok.kind hk hc hcell fin hcd) hd
theorem pe_int {i j pos} : PE X (.Constant (.int i) j pos) (tC (.int i)) := fun _ _ _ H _ I h => wpAny_Constant_int ⟨.int i, H, I.tok _, ⟨_, rfl⟩, h⟩
theorem pe_bl {b j pos} : PE X (.Constant (.bool b) j pos) (tC (.bl b)) := fun _ _ _ H _ I h => Constant_bool ⟨.bl b, H, I, rfl, h⟩
theorem pe_str {x j pos} : PE X (.Constant (.str x) j pos) (tC (.str x)) := fun _ _ _ H _ I h => Calls.Constant_str ⟨.str x, H, I.tok _, ⟨_, rfl⟩, h⟩
noncomputable def Gl (X : Cx) (x : Str) : Prop := X.env.kindOf x = some .globalImplicit
theorem ld_glob {E : Value → Shared → Prop} {pins : List (Addr × Obj)} {s : Shared} {σ : St} {H : Hp} {x : Str} {u : Value} {pos : Pos} {Q : Value → Shared → Prop} (I : Inv X pins σ H s) (hg : Gl X x) (hm : X.mg x = some u) (h : Q u s)
    (hd : (x == ("__debug__" : Str)) = false := by decide) : wpAny (model X.prog X.w) X.A (eval (.Name x pos) X.env) Q E s :=
  Calls.Name_function_global I.ok.kind hg (Calls.loadGlobal_global (by rw [I.ok.glob]; exact I.mod.glob.keeps I.bk) hm h) hd
theorem ld_blt {E : Value → Shared → Prop} {pins : List (Addr × Obj)} {s : Shared} {σ : St} {H : Hp} {x : Str} {u : Value} {pos : Pos} {Q : Value → Shared → Prop} (I : Inv X pins σ H s) (hg : Gl X x) (hm : X.mg x = none) (hv : bootBuiltins x = some u) (h : Q u s)
    (hn : x ≠ "__name__" := by decide) (hd : (x == ("__debug__" : Str)) = false := by decide) : wpAny (model X.prog X.w) X.A (eval (.Name x pos) X.env) Q E s := by
  obtain ⟨mb, h1, h2⟩ := I.mod.blt
  exact Calls.Name_function_global I.ok.kind hg (Calls.loadGlobal_builtin (by rw [I.ok.glob]; exact I.mod.glob.keeps I.bk) hm (by rw [I.ok.blt]; exact h1.keeps I.bk) ((h2 x hn).trans hv) h) hd
theorem pe_glob {x : Str} {v : V} {u : Value} {pos : Pos} (hg : Gl X x) (hm : X.mg x = some u) (r : RelV v u) (hd : (x == ("__debug__" : Str)) = false := by decide) : PE X (.Name x pos) (tC v) :=
  fun _ _ _ H _ I h => ld_glob I hg hm ⟨v, H, I, r, h⟩ hd
theorem pe_bltn {x : Str} {v : V} {u : Value} {pos : Pos} (hg : Gl X x) (hm : X.mg x = none) (hv : bootBuiltins x = some u) (r : RelV v u) (hn : x ≠ "__name__" := by decide) (hd : (x == ("__debug__" : Str)) = false := by decide) : PE X (.Name x pos) (tC v) :=
  fun _ _ _ H _ I h => ld_blt I hg hm hv ⟨v, H, I, r, h⟩ hn hd
variable {a b : Expr} {ta tb : TE} {pos : Pos}
inductive isBl (Q : Bool → Hp → Prop) (x : V) (H : Hp) : Prop
  | mk (c : Bool) (e : x = .bl c) (q : Q c H) : isBl Q x H
noncomputable def tB (t : TE) : TT := fun σ H Q => t σ H (isBl Q)
theorem pt_val {e : Expr} {t : TE} (h : PE X e t) (he : ∀ whole, isTrue e X.env whole = (do let v ← whole; standAt e.pos; holding [v] (truthy v)) := by intro _; rfl) : PT X e (tB t) := by
  intro pins s σ H Q I hw
  refine isTrue_plain (thn (h pins s σ H _ I hw) fun v s1 ⟨x, H1, I1, r1, q1⟩ => ?_) (he _)
  obtain ⟨d, rfl, q⟩ := q1
  cases r1
  exact wpAny_truthy_bool ⟨H1, I1, q⟩
variable {tA tB' : TT} {rest : List Expr}
noncomputable def tAnd (t u : TT) : TT := fun σ H Q => t σ H fun c H1 => if c = true then u σ H1 Q else Q false H1
noncomputable def tOr (t u : TT) : TT := fun σ H Q => t σ H fun c H1 => if c = true then Q true H1 else u σ H1 Q
noncomputable def tNot (t : TT) : TT := fun σ H Q => t σ H fun c H1 => Q (!c) H1
theorem pw_and1 (ha : PT X a tA) : PW X (.BoolOp .And [a] pos) tA := by
  intro wh pins s σ H Q I h
  refine isTrue_and (thn (ha pins s σ H Q I h) fun c s1 e => ?_)
  cases c with
  | true => exact isTrue_and_nil e
  | false => exact e
theorem pw_or1 (ha : PT X a tA) : PW X (.BoolOp .Or [a] pos) tA := by
  intro wh pins s σ H Q I h
  refine isTrue_or (thn (ha pins s σ H Q I h) fun c s1 e => ?_)
  cases c with
  | false => exact isTrue_or_nil e
  | true => exact e
theorem pw_and (ha : PT X a tA) (hb : PW X (.BoolOp .And (b :: rest) pos) tB') : PW X (.BoolOp .And (a :: b :: rest) pos) (tAnd tA tB') := by
  intro wh pins s σ H Q I h
  refine isTrue_and (thn (ha pins s σ H _ I h) fun c s1 ⟨H1, I1, q1⟩ => ?_)
  cases c with
  | true => exact hb wh pins s1 σ H1 Q I1 q1
  | false => exact ⟨H1, I1, q1⟩
theorem pw_or (ha : PT X a tA) (hb : PW X (.BoolOp .Or (b :: rest) pos) tB') : PW X (.BoolOp .Or (a :: b :: rest) pos) (tOr tA tB') := by
  intro wh pins s σ H Q I h
  refine isTrue_or (thn (ha pins s σ H _ I h) fun c s1 ⟨H1, I1, q1⟩ => ?_)
  cases c with
  | true => exact ⟨H1, I1, q1⟩
  | false => exact hb wh pins s1 σ H1 Q I1 q1
theorem pt_not (ha : PT X a tA) : PT X (.UnaryOp .Not a pos) (tNot tA) := by
  intro pins s σ H Q I h
  exact isTrue_not (ha pins s σ H (fun c H1 => Q (!c) H1) I h)
noncomputable def tAndV (ta tb : TE) : TE := fun σ H Q => ta σ H fun x H1 => ∃ c, x = .bl c ∧ if c = true then tb σ H1 Q else Q (.bl false) H1
noncomputable def tOrV (ta tb : TE) : TE := fun σ H Q => ta σ H fun x H1 => ∃ c, x = .bl c ∧ if c = true then Q (.bl true) H1 else tb σ H1 Q
noncomputable def tNotV (ta : TE) : TE := fun σ H Q => ta σ H fun x H1 => ∃ c, x = .bl c ∧ Q (.bl (!c)) H1
theorem pe_one {op} {t : TE} (h : PE X a t) : PE X (.BoolOp op [a] pos) t := fun pins s σ H Q I hw => BoolOp_one (h pins s σ H Q I hw)
theorem pe_and (ha : PE X a ta) (hb : PE X (.BoolOp .And (b :: rest) pos) tb) : PE X (.BoolOp .And (a :: b :: rest) pos) (tAndV ta tb) := by
  intro pins s σ H Q I h
  refine BoolOp_and (thn (ha pins s σ H _ I h) fun v s1 ⟨x, H1, I1, r1, q1⟩ => ?_)
  obtain ⟨c, rfl, q1⟩ := q1
  cases r1
  refine wpAny_truthy_bool ?_
  cases c with
  | true => exact hb pins s1 σ H1 Q I1 q1
  | false => exact ⟨.bl false, H1, I1, rfl, q1⟩
theorem pe_or (ha : PE X a ta) (hb : PE X (.BoolOp .Or (b :: rest) pos) tb) : PE X (.BoolOp .Or (a :: b :: rest) pos) (tOrV ta tb) := by
  intro pins s σ H Q I h
  refine BoolOp_or (thn (ha pins s σ H _ I h) fun v s1 ⟨x, H1, I1, r1, q1⟩ => ?_)
  obtain ⟨c, rfl, q1⟩ := q1
  cases r1
  refine wpAny_truthy_bool ?_
  cases c with
  | false => exact hb pins s1 σ H1 Q I1 q1
  | true => exact ⟨.bl true, H1, I1, rfl, q1⟩
theorem pe_not (ha : PE X a ta) : PE X (.UnaryOp .Not a pos) (tNotV ta) := by
  intro pins s σ H Q I h
  refine UnaryOp_ (thn (ha pins s σ H _ I h) fun v s1 ⟨x, H1, I1, r1, q1⟩ => ?_)
  obtain ⟨c, rfl, q1⟩ := q1
  cases r1
  exact not_of (wpAny_truthy_bool ⟨.bl (!c), H1, I1, rfl, q1⟩)
end
end L2
namespace L2
open PySem PySem.Spec PyProof.Rows
noncomputable def SqL (K : PySem.W.Frag) (H : Hp) (a : Addr) (xs : List V) : Prop :=
  Rd H a (.lst xs) ∨
    ∃ (o : Obj) (its : Array Value) (n : Nat), K.lookup a = some o ∧ o.cls = .type "list" ∧ o.dict = none ∧ o.data = .seq its n ∧ its.size ≤ sizeLine ∧ Vals xs its.toList
noncomputable def SqT (K : PySem.W.Frag) (H : Hp) (a : Addr) (xs : List V) : Prop :=
  Rd H a (.tup xs) ∨
    ∃ (o : Obj) (its : Array Value) (n : Nat), K.lookup a = some o ∧ o.cls = .type "tuple" ∧ o.data = .seq its n ∧ its.size ≤ sizeLine ∧ Vals xs its.toList
noncomputable def absV : Value → Option V
  | .none => some .non
  | .bool b => some (.bl b)
  | .int i _ => some (.int i)
  | .str x _ => some (.str x)
  | .bytes b _ => some (.byt b)
  | .float b _ => some (.flt b)
  | .ref a => some (.ref a)
  | .type n => some (.ty n)
  | _ => none
theorem RelV.abs {x : V} {u : Value} (r : RelV x u) : absV u = some x := by
  cases x with
  | non => cases r; rfl
  | bl _ => cases r; rfl
  | int _ => obtain ⟨t, rfl⟩ := r; rfl
  | str _ => obtain ⟨t, rfl⟩ := r; rfl
  | byt _ => obtain ⟨t, rfl⟩ := r; rfl
  | flt _ => obtain ⟨t, rfl⟩ := r; rfl
  | ref _ => cases r; rfl
  | ty _ => cases r; rfl
theorem RelV.inj {x y : V} {u : Value} (r : RelV x u) (q : RelV y u) : x = y := Option.some.inj (r.abs.symm.trans q.abs)
theorem Vals.inj {xs ys : List V} {us : List Value} (h : Vals xs us) (h' : Vals ys us) : xs = ys := by
  induction h generalizing ys with
  | nil => cases h'; rfl
  | cons r t ih => cases h' with | cons r' t' => rw [r.inj r', ih t']
section
variable {X : Cx} {pins : List (Addr × Obj)} {σ : St} {H : Hp} {s : Shared} {a : Addr} {xs ys : List V}
theorem SqL.of {K : PySem.W.Frag} (h : H a = some (.lst xs)) : SqL K H a xs := .inl (.inl h)
theorem SqT.of {K : PySem.W.Frag} (h : H a = some (.tup xs)) : SqT K H a xs := .inl (.inl h)
theorem Inv.list (I : Inv X pins σ H s) (h : SqL X.K H a xs) : ∃ its : List Value, Vals xs its ∧ PlainL s.heap a its.toArray ∧ xs.length ≤ sizeLine := by
  rcases h with h | ⟨o, its, n, hk, hc, hd, hs, hz, r⟩
  · obtain ⟨z, its, n, r, e⟩ := h.ok I.hok
    exact ⟨its, r, ⟨_, n, e, rfl, rfl, rfl⟩, z⟩
  · refine ⟨its.toList, r, ⟨o, n, I.kIn a o hk, hc, hd, by simpa using hs⟩, ?_⟩
    have e := r.length
    simp only [Array.length_toList] at e
    omega
theorem Inv.tuple (I : Inv X pins σ H s) (h : SqT X.K H a xs) : ∃ its : List Value, Vals xs its ∧ IsTup s.heap a its.toArray ∧ xs.length ≤ sizeLine := by
  rcases h with h | ⟨o, its, n, hk, hc, hs, hz, r⟩
  · obtain ⟨z, its, r, p⟩ := h.ok I.hok
    exact ⟨its, r, p, z⟩
  · refine ⟨its.toList, r, ⟨o, I.kIn a o hk, hc, n, by simpa using hs⟩, ?_⟩
    have e := r.length
    simp only [Array.length_toList] at e
    omega
theorem Inv.list_inj (I : Inv X pins σ H s) (h : SqL X.K H a xs) (h' : SqL X.K H a ys) : xs = ys := by
  obtain ⟨its, r, ⟨o, n, e, _, _, d⟩, _⟩ := I.list h
  obtain ⟨its', r', ⟨o', n', e', _, _, d'⟩, _⟩ := I.list h'
  rw [e] at e'; cases e'
  rw [d] at d'
  injection d' with d1 _
  have : its = its' := by simpa using congrArg Array.toList d1
  subst this
  exact r.inj r'
theorem Inv.tuple_inj (I : Inv X pins σ H s) (h : SqT X.K H a xs) (h' : SqT X.K H a ys) : xs = ys := by
  obtain ⟨its, r, ⟨o, e, _, n, d⟩, _⟩ := I.tuple h
  obtain ⟨its', r', ⟨o', e', _, n', d'⟩, _⟩ := I.tuple h'
  rw [e] at e'; cases e'
  rw [d] at d'
  injection d' with d1 _
  have : its = its' := by simpa using congrArg Array.toList d1
  subst this
  exact r.inj r'
end
noncomputable abbrev Cx.wish (X : Cx) (E : Value → Shared → Prop) : Cx := { X with xe := E }
noncomputable abbrev Cx.nox (X : Cx) : Cx := X.wish fun _ _ => False
theorem Cx.Ok.wish {X : Cx} (ok : X.Ok) (E : Value → Shared → Prop) : (X.wish E).Ok :=
  ⟨ok.mod, ok.kind, ok.glob, ok.blt, ok.above, ok.inj, ok.has, ok.cab, ok.hd, ok.frames, ok.stk, ok.exf, ok.bs, ok.bsz, ok.noex, ok.exfs, ok.funs, ok.frf⟩
theorem Cx.Ok.unwish {X : Cx} {E : Value → Shared → Prop} (ok : (X.wish E).Ok) : X.Ok :=
  ⟨ok.mod, ok.kind, ok.glob, ok.blt, ok.above, ok.inj, ok.has, ok.cab, ok.hd, ok.frames, ok.stk, ok.exf, ok.bs, ok.bsz, ok.noex, ok.exfs, ok.funs, ok.frf⟩
section
variable {X : Cx} {pins : List (Addr × Obj)} {σ : St} {H : Hp} {s : Shared} {E : Value → Shared → Prop}
theorem Inv.wish (I : Inv X pins σ H s) (E : Value → Shared → Prop) : Inv (X.wish E) pins σ H s := ⟨I.ok.wish E, I.os, I.bare, I.base, I.loc, I.cell, I.free, I.freeC, I.pin, I.hok, I.len⟩
theorem Inv.unwish (I : Inv (X.wish E) pins σ H s) : Inv X pins σ H s := ⟨I.ok.unwish, I.os, I.bare, I.base, I.loc, I.cell, I.free, I.freeC, I.pin, I.hok, I.len⟩
theorem SP.unwish {D : Ends} {f : Flow} {s' : Shared} (h : SP (X.wish E) pins D f s') : SP X pins D f s' := by
  cases f with
  | next => obtain ⟨σ', H', I, q⟩ := h; exact ⟨σ', H', I.unwish, q⟩
  | brk => obtain ⟨σ', H', I, q⟩ := h; exact ⟨σ', H', I.unwish, q⟩
  | cont => obtain ⟨σ', H', I, q⟩ := h; exact ⟨σ', H', I.unwish, q⟩
  | ret u => obtain ⟨v, σ', H', I, r, q⟩ := h; exact ⟨v, σ', H', I.unwish, r, q⟩
end
section
variable {X : Cx} {st : Stmt} {rest : List Stmt} {t u : TS} {e : Expr} {te : TE} {pos : Pos}
noncomputable def tNext : TS := fun D σ H => D.nx σ H
noncomputable def tSeq (t u : TS) : TS := fun D σ H => t { D with nx := u D } σ H
theorem pss_nil : PSs X [] tNext := fun _ _ σ H _ I h => wpAny_execs_nil ⟨σ, H, I, h⟩
theorem pss_cons (h1 : PS X st t) (h2 : PSs X rest u) : PSs X (st :: rest) (tSeq t u) := by
  intro pins s σ H D I h
  refine wpAny_execs_cons (thn (h1 pins s σ H { D with nx := u D } I h) fun f s1 q => ?_)
  cases f with
  | next =>
    obtain ⟨σ', H', I', q⟩ := q
    exact h2 pins s1 σ' H' D I' q
  | ret v => exact q
  | brk => exact q
  | cont => exact q
theorem pss_one (h1 : PS X st t) : PSs X [st] t := by
  intro pins s σ H D I h
  refine wpAny_execs_cons (thn (h1 pins s σ H D I h) fun f s1 q => ?_)
  cases f with
  | next => exact wpAny_execs_nil q
  | ret v => exact q
  | brk => exact q
  | cont => exact q
theorem Inv.quiet {pins : List (Addr × Obj)} {σ : St} {H : Hp} {s : Shared} (I : Inv X pins σ H s) : interactive X.env = false := by simp [interactive, I.ok.kind]
noncomputable def tDrop (te : TE) : TS := fun D σ H => te σ H fun _ H1 => D.nx σ H1
theorem ps_expr (he : PE X e te) (hs : swapsWith e none pos.line X.env = pure false := by rfl) : PS X (.Expr e pos) (tDrop te) := by
  intro pins s σ H D I h
  exact wpAny_Expr_any (thn (he pins s σ H _ I h) fun v s1 ⟨x, H1, I1, r1, q1⟩ => ⟨σ, H1, I1, q1⟩) I.quiet hs
noncomputable def tRet (te : TE) : TS := fun D σ H => te σ H D.rt
theorem ps_ret (he : PE X e te) : PS X (.Return (some e) pos) (tRet te) := by
  intro pins s σ H D I h
  exact wpAny_Return_some (thn (he pins s σ H _ I h) fun v s1 ⟨x, H1, I1, r1, q1⟩ => ⟨x, σ, H1, I1, r1, q1⟩)
noncomputable def tIfS (c : TT) (t u : TS) : TS := fun D σ H => c σ H fun b H1 => if b = true then t D σ H1 else u D σ H1
theorem ps_if {c : Expr} {a b : List Stmt} {tc : TT} (hc : PT X c tc) (ha : PSs X a t) (hb : PSs X b u) : PS X (.If c a b pos) (tIfS tc t u) := by
  intro pins s σ H D I h
  refine wpAny_If (thn (hc pins s σ H _ I h) fun d s1 ⟨H1, I1, q1⟩ => ?_)
  cases d with
  | true => exact ha pins s1 σ H1 D I1 q1
  | false => exact hb pins s1 σ H1 D I1 q1
end
noncomputable abbrev TG := V → St → Hp → (St → Hp → Prop) → Prop
noncomputable abbrev TGs := List V → St → Hp → (St → Hp → Prop) → Prop
noncomputable def PG (X : Cx) (target : Expr) (t : TG) : Prop :=
  ∀ (pins : List (Addr × Obj)) (s : Shared) (σ : St) (H : Hp) (v : V) (u : Value) (Q : St → Hp → Prop), Inv X pins σ H s → RelV v u → t v σ H Q →
    wpAny (model X.prog X.w) X.A (assign target X.env u) (fun _ s' => ∃ σ' H', Inv X pins σ' H' s' ∧ Q σ' H') X.xe s
noncomputable def PGs (X : Cx) (ts : List Expr) (t : TGs) : Prop :=
  ∀ (pins : List (Addr × Obj)) (s : Shared) (σ : St) (H : Hp) (vs : List V) (us : List Value) (Q : St → Hp → Prop), Inv X pins σ H s → Vals vs us → t vs σ H Q →
    wpAny (model X.prog X.w) X.A (assignInOrder ((assignEach ts X.env).map (·.2)) us) (fun _ s' => ∃ σ' H', Inv X pins σ' H' s' ∧ Q σ' H') X.xe s
noncomputable abbrev TSet := V → V → V → Hp → (Hp → Prop) → Prop
noncomputable def PSet (X : Cx) (t : TSet) : Prop :=
  ∀ (pins : List (Addr × Obj)) (s : Shared) (σ : St) (H : Hp) (o i v : V) (ov iv u : Value) (Q : Hp → Prop), Inv X pins σ H s → RelV o ov → RelV i iv → RelV v u → t o i v H Q →
    wpAny (model X.prog X.w) X.A (setItem ov iv u) (fun _ s' => ∃ H', Inv X pins σ H' s' ∧ Q H') X.xe s
section
variable {X : Cx} {pos : Pos}
noncomputable def gName (i : Nat) : TG := fun v σ H Q => Q (σ.set i (some v)) H
theorem pg_name {i : Nat} {x : Str} (hN : X.N.Nodup) (hi : X.N[i]? = some x) (hx : Loc X.env.scope x) (hf : X.fn x = true ∨ X.env.scope.names.lookup x = some .local := by first | exact .inl rfl | exact .inr rfl | assumption) : PG X (.Name x pos) (gName i) := by
  intro pins s σ H v u Q I r h
  exact wpAny_assign_Name (store_ok I hN hi hx r (fun s' I' => ⟨_, H, I', h⟩) hf)
noncomputable def gNil : TGs := fun vs σ H Q => vs = [] ∧ Q σ H
noncomputable def gCons (t : TG) (u : TGs) : TGs := fun vs σ H Q => ∃ v r, vs = v :: r ∧ t v σ H fun σ' H' => u r σ' H' Q
theorem pgs_nil : PGs X [] gNil := by
  intro pins s σ H vs us Q I r h
  obtain ⟨e, h⟩ := h
  subst e
  cases r
  exact assignInOrder_nil ⟨σ, H, I, h⟩
theorem pgs_cons {e : Expr} {es : List Expr} {t : TG} {u : TGs} (h1 : PG X e t) (h2 : PGs X es u)
    (hs : (assignEach (e :: es) X.env).map (·.2) = assign e X.env :: (assignEach es X.env).map (·.2) := by rfl) : PGs X (e :: es) (gCons t u) := by
  intro pins s σ H vs us Q I r h
  obtain ⟨v, vr, e1, h⟩ := h
  subst e1
  cases r with
  | cons r rr =>
    rw [hs]
    refine assignInOrder_cons (thn (h1 pins s σ H _ _ _ I r h) fun _ s1 ⟨σ1, H1, I1, q1⟩ => ?_)
    exact h2 pins s1 σ1 H1 _ _ Q I1 rr q1
noncomputable def gTup (K : PySem.W.Frag) (n : Nat) (t : TGs) : TG := fun v σ H Q => ∃ a xs, v = .ref a ∧ SqT K H a xs ∧ xs.length = n ∧ t xs σ H Q
theorem pg_tup {es : List Expr} {k : Nat} {t : TGs} {n : Nat} (hc : X.calm = true) (h : PGs X es t)
    (hn : (assignEach es X.env).length = n := by rfl) (hst : (assignEach es X.env).findIdx? (·.1) = none := by rfl) : PG X (.Tuple es k pos) (gTup X.K n t) := by
  intro pins s σ H v u Q I r hw
  obtain ⟨a, xs, e1, hq, hl, hw⟩ := hw
  subst e1
  cases r
  obtain ⟨its, rv, ht, hz⟩ := I.tuple hq
  refine assign_Tuple_tuple (I.ok.hd hc) ht (by simp [hn, ← hl, rv.length]) hst fun h' hx => ?_
  have I1 : Inv X pins σ H { s with heap := h' } := I.kept (t' := s.toks) fun b o e => hx b o (Nat.ne_of_lt (Heap.lt_size e)) e
  exact h pins _ σ H xs _ Q I1 (by simpa using rv) hw
noncomputable def gSub (to ti : TE) (t : TSet) : TG := fun v σ H Q => to σ H fun o H1 => ti σ H1 fun i H2 => t o i v H2 fun H3 => Q σ H3
theorem pg_sub {o i : Expr} {to ti : TE} {t : TSet} (ho : PE X o to) (hi : PE X i ti) (hs : PSet X t)
    (ha : ∀ v, assign (.Subscript o i pos) X.env v = (do
      let ov ← holding [v] (eval o X.env)
      let iv ← holding [v, ov] (eval i X.env)
      standAt pos
      holding [v, ov, iv] (setItem ov iv v)
      release [v, ov, iv] []) := by intro _; rfl) : PG X (.Subscript o i pos) (gSub to ti t) := by
  intro pins s σ H v u Q I r h
  rw [ha]
  refine wpAny_bind (wpAny_holding (thn (ho pins s σ H _ I h) fun ov s1 ⟨x, H1, I1, r1, q1⟩ => ?_))
  refine wpAny_bind (wpAny_holding (thn (hi pins s1 σ H1 _ I1 q1) fun iv s2 ⟨y, H2, I2, r2, q2⟩ => ?_))
  refine wpAny_bind (wpAny_standAt (wpAny_bind (wpAny_holding (thn (hs pins s2 σ H2 x y v ov iv u _ I2 r1 r2 r q2) fun _ s3 ⟨H3, I3, q3⟩ => ?_))))
  exact wpAny_release ⟨σ, H3, I3, q3⟩
noncomputable def tAsg (te : TE) (g : TG) : TS := fun D σ H => te σ H fun x H1 => g x σ H1 D.nx
theorem ps_asg {tg e : Expr} {te : TE} {g : TG} (he : PE X e te) (hg : PG X tg g) (hs : swapsWithSole [tg] e pos.line X.env = pure false := by rfl) (hw : swappedStores [tg] e X.env = pure none := by rfl)
    (h1 : (assignEach [tg] X.env).map (·.2) = [assign tg X.env] := by rfl) : PS X (.Assign [tg] e pos) (tAsg te g) := by
  intro pins s σ H D I h
  refine wpAny_Assign_stores (thn (he pins s σ H _ I h) fun v s1 ⟨x, H1, I1, r1, q1⟩ => ?_) hs hw
  rw [h1]
  exact thn (hg pins s1 σ H1 x v _ I1 r1 q1) fun _ s2 q => q
theorem ps_set {i : Nat} {x : Str} {e : Expr} {te : TE} {pos' : Pos} (hN : X.N.Nodup) (hi : X.N[i]? = some x) (hx : Loc X.env.scope x) (he : PE X e te) (hs : swapsWith e (some (.Name x pos')) pos.line X.env = pure false := by rfl) (hf : X.fn x = true ∨ X.env.scope.names.lookup x = some .local := by first | exact .inl rfl | exact .inr rfl | assumption) :
    PS X (.Assign [.Name x pos'] e pos) (tAsg te (gName i)) := by
  intro pins s σ H D I h
  refine wpAny_Assign_Name (thn (he pins s σ H _ I h) fun v s1 ⟨y, H1, I1, r1, q1⟩ => ?_) hs
  exact store_ok I1 hN hi hx r1 (fun s2 I2 => ⟨_, H1, I2, q1⟩) hf
end
section
variable {X : Cx} {pos : Pos}
inductive tWhile (c : TT) (tb : TS) (D : Ends) (σ0 : St) (H0 : Hp) : Prop
  | mk (W : Nat → St → Hp → Prop) (h0 : ∃ m, W m σ0 H0) (h : ∀ m σ H, W m σ H → c σ H fun b H1 => if b = true then ∃ N : St → Hp → Prop, (∀ σ' H', N σ' H' → ∃ m', m' < m ∧ W m' σ' H') ∧ tb { D with nx := N, ct := N, bk := D.nx } σ H1 else D.nx σ H1) : tWhile c tb D σ0 H0
theorem ps_while {c : Expr} {body : List Stmt} {tc : TT} {tb : TS} (hp : PassesOwn (model X.prog X.w) X.A X.env X.xe) (hc : PT X c tc) (hb : PSs X body tb) : PS X (.While c body [] pos) (tWhile tc tb) := by
  intro pins s σ H D I h
  obtain ⟨W, ⟨m0, w0⟩, turn⟩ := h
  refine wpAny_While (codeAny_whileLoop (fun n s' => ∃ σ' H', Inv X pins σ' H' s' ∧ W n σ' H') ?_ m0 ⟨σ, H, I, w0⟩)
  rintro n s1 ⟨σ1, H1, I1, w1⟩
  refine wpAny_passesOwn hp (thn (hc pins s1 σ1 H1 _ I1 (turn n σ1 H1 w1)) fun b s2 ⟨H2, I2, q2⟩ => ?_)
  cases b with
  | true =>
    obtain ⟨N, hN, q2⟩ := q2
    rw [if_pos rfl]
    refine wpAny_passesOwn hp (thn (hb pins s2 σ1 H2 _ I2 q2) fun f s3 q3 => ?_)
    cases f with
    | next =>
      obtain ⟨σ3, H3, I3, n3⟩ := q3
      obtain ⟨m', hm, w3⟩ := hN σ3 H3 n3
      exact ⟨m', hm, σ3, H3, I3, w3⟩
    | cont =>
      obtain ⟨σ3, H3, I3, n3⟩ := q3
      obtain ⟨m', hm, w3⟩ := hN σ3 H3 n3
      exact ⟨m', hm, σ3, H3, I3, w3⟩
    | brk => exact q3
    | ret v => exact q3
  | false =>
    rw [if_neg Bool.false_ne_true]
    exact wpAny_execs_nil ⟨σ1, H2, I2, q2⟩
end
structure It where
  go : Nat → Hp → Prop
  yld : Nat → Hp → V → Hp → Prop
  stop : Nat → Hp → Prop
noncomputable def FpOk (X : Cx) (pins : List (Addr × Obj)) (H : Hp) (b : Addr) : Prop :=
  H b = none ∧ b ≠ X.env.locals ∧ b ∉ X.fs ∧ (b ∈ X.ex ∨ X.s₀.heap.objs.size ≤ b) ∧ (∀ x c, X.env.cells.lookup x = some c → c ≠ b) ∧ ∀ p ∈ X.pn ++ pins, p.1 ≠ b
theorem Inv.fpOk {X : Cx} {pins : List (Addr × Obj)} {σ : St} {H H' : Hp} {s : Shared} {b : Addr} (I : Inv X pins σ H s) (hb : s.heap.objs.size ≤ b) (hn : H' b = none) : FpOk X pins H' b := by
  refine ⟨hn, Nat.ne_of_gt (Nat.lt_of_lt_of_le I.lt hb), I.nofs hb, .inr (Nat.le_trans I.sz hb), fun x c e z => ?_, fun p hp z => ?_⟩
  · obtain ⟨v, q⟩ := I.cell x c e
    exact absurd (Nat.lt_of_lt_of_le q.lt (by rw [z]; exact hb)) (Nat.lt_irrefl _)
  · exact absurd (Nat.lt_of_lt_of_le (Heap.lt_size (I.pin p hp).1) (by rw [z]; exact hb)) (Nat.lt_irrefl _)
structure Turn (P : Program) (w : World) (K : PySem.W.Frag) (tg : Expr) (J : It) (fp : List Addr) (it : Addr) (tn : Nat → Heap → Prop) : Prop where
  mem : it ∈ fp
  obj : ∀ i h, tn i h → ∀ b ∈ fp, ∃ o, h.get? b = some o ∧ ∀ v, o.data ≠ .cell v
  keep : ∀ i h h', tn i h → (∀ b ∈ fp, ∀ o, h.get? b = some o → h'.get? b = some o) → tn i h'
  item : ∀ (X : Cx), X.prog = P → X.w = w → X.K = K → X.calm = true → ∀ (i : Nat) (pins : List (Addr × Obj)) (s : Shared) (σ : St) (H : Hp) (E : Value → Shared → Prop), Inv X pins σ H s → (∀ b ∈ fp, FpOk X pins H b) → tn i s.heap → J.go i H →
    wpAny (model P w) X.A (pyNext (.ref it)) (fun r s1 => ∃ u, r = some u ∧
      wpAny (model P w) X.A (letOwnedTupleGo tg (.ref it) u) (fun _ s2 => ∃ x H', Inv X pins σ H' s2 ∧ RelV x u ∧ J.yld i H x H' ∧ tn (i + 1) s2.heap ∧ ∀ b ∈ fp, H' b = none) E s1) E s
  done : ∀ (X : Cx), X.prog = P → X.w = w → X.K = K → X.calm = true → ∀ (i : Nat) (pins : List (Addr × Obj)) (s : Shared) (σ : St) (H : Hp) (E : Value → Shared → Prop), Inv X pins σ H s → (∀ b ∈ fp, FpOk X pins H b) → tn i s.heap → J.stop i H →
    wpAny (model P w) X.A (pyNext (.ref it)) (fun r s1 => r = none ∧ Inv X pins σ H s1) E s
  self : ∀ (A : Around) (i : Nat) (s : Shared) (Q : Value → Shared → Prop) (E : Value → Shared → Prop), tn i s.heap → Q (.ref it) s → wpAny (model P w) A (pyIter (.ref it)) Q E s
noncomputable abbrev TI := St → Hp → (It → Hp → Prop) → Prop
noncomputable def PIE (X : Cx) (pins : List (Addr × Obj)) (σ : St) (tg : Expr) (R : It → Hp → Prop) (itv : Value) (s2 : Shared) : Prop :=
  ∃ (it : Addr) (fp : List Addr) (tn : Nat → Heap → Prop) (J : It) (H' : Hp), itv = .ref it ∧ Inv X pins σ H' s2 ∧ Turn X.prog X.w X.K tg J fp it tn ∧ tn 0 s2.heap ∧ (∀ b ∈ fp, FpOk X pins H' b) ∧ R J H'
noncomputable def PI (X : Cx) (tg iter : Expr) (wi : TI) : Prop :=
  ∀ (pins : List (Addr × Obj)) (s : Shared) (σ : St) (H : Hp) (R : It → Hp → Prop), Inv X pins σ H s → wi σ H R →
    wpAny (model X.prog X.w) X.A (eval iter X.env) (fun v s1 => wpAny (model X.prog X.w) X.A (pyIter v) (PIE X pins σ tg R) X.xe s1) X.xe s
theorem go_of {M : Model} {A : Around} {E : Value → Shared → Prop} {s : Shared} {tg : Expr} {it : Addr} {u : Value} {o : Obj} {n : String} {vs : Array Value} {Q : Unit → Shared → Prop} (ho : s.heap.get? it = some o) (hc : o.cls = .type n) (hd : o.data = .fields vs)
    (hn : ["enumerate", "zip", "dict_itemiterator", "dict_reverseitemiterator", "odict_iterator", "itertools.zip_longest", "itertools.pairwise"].contains n = false) (hQ : Q () s) : wpAny M A (letOwnedTupleGo tg (.ref it) u) Q E s := by
  unfold letOwnedTupleGo
  cases tg <;> first
    | exact wpAny_pure hQ
    | (cases u <;> first
        | exact wpAny_pure hQ
        | (refine wpAny_bind (wpAny_load ho ?_)
           rw [hc, hd]
           show wpAny M A (if (["enumerate", "zip", "dict_itemiterator", "dict_reverseitemiterator", "odict_iterator", "itertools.zip_longest", "itertools.pairwise"].contains n && vs[0]? == some (rawInt _)) = true then _ else _) Q E s
           rw [if_neg (by intro h; rw [hn, Bool.false_and] at h; cases h)]
           exact wpAny_pure hQ))
noncomputable def Itl (K : PySem.W.Frag) (a : Addr) : It :=
  ⟨fun i H => ∃ xs x, SqL K H a xs ∧ xs[i]? = some x, fun i H x H' => H' = H ∧ ∀ xs, SqL K H a xs → xs[i]? = some x, fun i H => ∃ xs, SqL K H a xs ∧ xs.length ≤ i⟩
noncomputable def Itt (K : PySem.W.Frag) (a : Addr) : It :=
  ⟨fun i H => ∃ xs x, SqT K H a xs ∧ xs[i]? = some x, fun i H x H' => H' = H ∧ ∀ xs, SqT K H a xs → xs[i]? = some x, fun i H => ∃ xs, SqT K H a xs ∧ xs.length ≤ i⟩
noncomputable def Itr (lo : Int) (n : Nat) : It := ⟨fun i _ => i < n, fun i H x H' => H' = H ∧ x = .int (lo + i), fun i _ => n ≤ i⟩
theorem turn_list {P : Program} {w : World} {K : PySem.W.Frag} {tg : Expr} (a it : Addr) : Turn P w K tg (Itl K a) [it] it (fun i h => h.IsListIter it a i) where
  mem := by simp
  obj := fun i h st b hb => by
    have e : b = it := by simpa using hb
    subst e
    obtain ⟨o, e, c, d⟩ := st
    exact ⟨o, e, fun v z => by rw [d] at z; cases z⟩
  keep := fun i h h' st k => st.at fun o e => k it (by simp) o e
  item := by
    intro X hP hw hK hc i pins s σ H E I hf st hg
    subst hP hw hK
    obtain ⟨xs, x, hq, hx⟩ := hg
    obtain ⟨its, rv, p, hz⟩ := I.list hq
    obtain ⟨u, hu, ru⟩ := rv.get hx
    obtain ⟨f0, f1, f2, f3, f4, f5⟩ := hf it (by simp)
    refine wpAny_pyNext_list_item st p.isList (x := u) (by simpa using hu) fun h' st' sb => ?_
    have I1 : Inv X pins σ H { s with heap := h' } := I.turned (t' := s.toks) (fun b o hb e => (sb.2 b hb).trans e) f0 f1 f3 f4 f5
    obtain ⟨o, e, c, d⟩ := id st'
    exact ⟨u, rfl, go_of (s := { s with heap := h' }) e c d (by decide) ⟨x, H, I1, ru, ⟨rfl, fun ys hy => by rw [I.list_inj hy hq]; exact hx⟩, st', fun b hb => (hf b hb).1⟩⟩
  done := by
    intro X hP hw hK hc i pins s σ H E I hf st hg
    subst hP hw hK
    obtain ⟨xs, hq, hx⟩ := hg
    obtain ⟨its, rv, p, hz⟩ := I.list hq
    obtain ⟨f0, f1, f2, f3, f4, f5⟩ := hf it (by simp)
    have hl := rv.length
    exact wpAny_pyNext_list_end (I.ok.hd hc) st p.isList (by simp; omega) fun h' eb => ⟨rfl, I.turned (t' := s.toks) (fun b o hb e => eb b o hb e) f0 f1 f3 f4 f5⟩
  self := fun _ _ _ _ _ st h => wpAny_pyIter_listiter st h
theorem turn_tuple {P : Program} {w : World} {K : PySem.W.Frag} {tg : Expr} (a it : Addr) : Turn P w K tg (Itt K a) [it] it (fun i h => h.IsTupleIter it a i) where
  mem := by simp
  obj := fun i h st b hb => by
    have e : b = it := by simpa using hb
    subst e
    obtain ⟨o, e, c, d⟩ := st
    exact ⟨o, e, fun v z => by rw [d] at z; cases z⟩
  keep := fun i h h' st k => st.at fun o e => k it (by simp) o e
  item := by
    intro X hP hw hK hc i pins s σ H E I hf st hg
    subst hP hw hK
    obtain ⟨xs, x, hq, hx⟩ := hg
    obtain ⟨its, rv, p, hz⟩ := I.tuple hq
    obtain ⟨u, hu, ru⟩ := rv.get hx
    obtain ⟨f0, f1, f2, f3, f4, f5⟩ := hf it (by simp)
    refine wpAny_pyNext_tuple_item st (show s.heap.IsTuple a its.toArray from p) (x := u) (by simpa using hu) fun h' st' sb => ?_
    have I1 : Inv X pins σ H { s with heap := h' } := I.turned (t' := s.toks) (fun b o hb e => (sb.2 b hb).trans e) f0 f1 f3 f4 f5
    obtain ⟨o, e, c, d⟩ := id st'
    exact ⟨u, rfl, go_of (s := { s with heap := h' }) e c d (by decide) ⟨x, H, I1, ru, ⟨rfl, fun ys hy => by rw [I.tuple_inj hy hq]; exact hx⟩, st', fun b hb => (hf b hb).1⟩⟩
  done := by
    intro X hP hw hK hc i pins s σ H E I hf st hg
    subst hP hw hK
    obtain ⟨xs, hq, hx⟩ := hg
    obtain ⟨its, rv, p, hz⟩ := I.tuple hq
    obtain ⟨f0, f1, f2, f3, f4, f5⟩ := hf it (by simp)
    have hl := rv.length
    exact wpAny_pyNext_tuple_end (I.ok.hd hc) st (show s.heap.IsTuple a its.toArray from p) (by simp; omega) fun h' eb => ⟨rfl, I.turned (t' := s.toks) (fun b o hb e => eb b o hb e) f0 f1 f3 f4 f5⟩
  self := fun _ _ _ _ _ st h => wpAny_pyIter_tupleiter st h
theorem turn_range {P : Program} {w : World} {K : PySem.W.Frag} {tg : Expr} (it : Addr) (lo : Int) (n : Nat) : Turn P w K tg (Itr lo n) [it] it (fun i h => IsRangeIter h it (lo + (i : Nat) * 1) ((n : Int) - (i : Nat)) 1) where
  mem := by simp
  obj := fun i h st b hb => by
    have e : b = it := by simpa using hb
    subst e
    exact ⟨_, st, fun v z => by
      have z' : Data.fields _ = Data.cell v := z
      cases z'⟩
  keep := fun i h h' st k => k it (by simp) _ st
  item := by
    intro X hP hw hK hc i pins s σ H E I hf st hg
    subst hP hw hK
    obtain ⟨f0, f1, f2, f3, f4, f5⟩ := hf it (by simp)
    have W := Walks.range (prog := X.prog) (w := X.w) (I.ok.hd hc) it lo 1 n
    refine W.item i s _ _ hg st fun v h' tk hv st' kk => ?_
    obtain ⟨t, rfl⟩ := hv
    have I1 : Inv X pins σ H { s with heap := h', toks := tk } := I.turned (fun b o hb e => kk b o (by simpa using hb) e) f0 f1 f3 f4 f5
    refine ⟨_, rfl, go_of (s := { s with heap := h', toks := tk }) (n := "range_iterator") st' rfl rfl (by decide) ⟨.int (lo + i), H, I1, ⟨t, ?_⟩, ⟨rfl, rfl⟩, st', fun b hb => (hf b hb).1⟩⟩
    rw [Int.mul_one]
  done := by
    intro X hP hw hK hc i pins s σ H E I hf st hg
    subst hP hw hK
    obtain ⟨f0, f1, f2, f3, f4, f5⟩ := hf it (by simp)
    exact wpAny_pyNext_range_end (I.ok.hd hc) st (by have : n ≤ i := hg; omega) fun h' eb => ⟨rfl, I.turned (t' := s.toks) (fun b o hb e => eb b o hb e) f0 f1 f3 f4 f5⟩
  self := fun _ _ _ _ _ st h => wpAny_pyIter_rangeiter st h
end L2
namespace L2
open PySem PySem.Spec PyProof.Rows
section
variable {X : Cx} {tg : Expr}
noncomputable def iList (K : PySem.W.Frag) (tl : TE) : TI := fun σ H R => tl σ H fun x H1 => ∃ a, x = .ref a ∧ (∃ xs, SqL K H1 a xs) ∧ R (Itl K a) H1
noncomputable def iTup (K : PySem.W.Frag) (tl : TE) : TI := fun σ H R => tl σ H fun x H1 => ∃ a, x = .ref a ∧ (∃ xs, SqT K H1 a xs) ∧ R (Itt K a) H1
theorem pi_list {l : Expr} {tl : TE} (hl : PE X l tl) : PI X tg l (iList X.K tl) := by
  intro pins s σ H R I h
  refine thn (hl pins s σ H _ I h) fun v s1 ⟨x, H1, I1, r1, q1⟩ => ?_
  obtain ⟨a, e, ⟨xs, hq⟩, q⟩ := q1
  subst e
  cases r1
  obtain ⟨its, rv, p, hz⟩ := I1.list hq
  refine wpAny_pyIter_list p.isList ?_
  refine ⟨s1.heap.objs.size, [s1.heap.objs.size], _, _, H1, rfl, I1.kept (t' := s1.toks) fun b o e => Heap.get?_push_of_some _ e, turn_list a _, ⟨_, Heap.get?_push_size _ rfl, rfl, rfl⟩, fun b hb => ?_, q⟩
  have e : b = s1.heap.objs.size := by simpa using hb
  subst e
  exact I1.fpOk (Nat.le_refl _) (I1.hok.fresh (Nat.le_refl _))
theorem pi_tup {l : Expr} {tl : TE} (hl : PE X l tl) : PI X tg l (iTup X.K tl) := by
  intro pins s σ H R I h
  refine thn (hl pins s σ H _ I h) fun v s1 ⟨x, H1, I1, r1, q1⟩ => ?_
  obtain ⟨a, e, ⟨xs, hq⟩, q⟩ := q1
  subst e
  cases r1
  obtain ⟨its, rv, p, hz⟩ := I1.tuple hq
  refine wpAny_pyIter_tuple (show s1.heap.IsTuple a its.toArray from p) ?_
  refine ⟨s1.heap.objs.size, [s1.heap.objs.size], _, _, H1, rfl, I1.kept (t' := s1.toks) fun b o e => Heap.get?_push_of_some _ e, turn_tuple a _, ⟨_, Heap.get?_push_size _ rfl, rfl, rfl⟩, fun b hb => ?_, q⟩
  have e : b = s1.heap.objs.size := by simpa using hb
  subst e
  exact I1.fpOk (Nat.le_refl _) (I1.hok.fresh (Nat.le_refl _))
theorem range_it {pins : List (Addr × Obj)} {σ : St} {H : Hp} {s : Shared} {R : It → Hp → Prop} {E : Value → Shared → Prop} {lo hi : Int} {t u v : Tok} {tk : Nat} (I : Inv X pins σ H s) (h1 : -(2 ^ 62) ≤ lo) (h2 : lo < 2 ^ 62) (h3 : -(2 ^ 62) ≤ hi) (h4 : hi < 2 ^ 62)
    (q : R (Itr lo (hi - lo).toNat) H) : wpAny (model X.prog X.w) X.A (pyIter (.ref s.heap.objs.size)) (PIE X pins σ tg R) E { s with heap := s.heap.push { cls := .type "range", data := .fields #[.int lo t, .int hi u, .int 1 v] }, toks := tk } := by
  refine wpAny_pyIter_range (IsRange.new ..) (small_one h1 h2 h3 h4) ?_
  have I1 : Inv X pins σ H { s with heap := s.heap.push { cls := .type "range", data := .fields #[.int lo t, .int hi u, .int 1 v] }, toks := tk } := I.kept fun b o e => Heap.get?_push_of_some _ e
  refine ⟨(s.heap.push { cls := .type "range", data := .fields #[.int lo t, .int hi u, .int 1 v] }).objs.size, [(s.heap.push { cls := .type "range", data := .fields #[.int lo t, .int hi u, .int 1 v] }).objs.size], _, _, H, rfl,
    I1.kept (t' := tk) fun b o e => Heap.get?_push_of_some _ e, turn_range _ lo (hi - lo).toNat, ?_, fun b hb => ?_, q⟩
  · have e1 : lo + ((0 : Nat) : Int) * 1 = lo := by simp
    have e2 : (((hi - lo).toNat : Nat) : Int) - ((0 : Nat) : Int) = Builtin.Range.rangeSize lo hi 1 := by rw [rangeSize_one]; split <;> omega
    show IsRangeIter _ _ (lo + ((0 : Nat) : Int) * 1) ((((hi - lo).toNat : Nat) : Int) - ((0 : Nat) : Int)) 1
    rw [e1, e2]
    exact Heap.get?_push_size _ rfl
  · have e : b = (s.heap.push { cls := .type "range", data := .fields #[.int lo t, .int hi u, .int 1 v] }).objs.size := by simpa using hb
    subst e
    exact I1.fpOk (Nat.le_refl _) (I1.hok.fresh (Nat.le_refl _))
noncomputable def iRng1 (ta : TA) : TI := fun σ H R => ta σ H fun vs H1 => ∃ j : Int, vs = [.int j] ∧ -(2 ^ 62) ≤ j ∧ j < 2 ^ 62 ∧ R (Itr 0 j.toNat) H1
theorem pi_range1 {a : Expr} {ta : TA} {p pos : Pos} (hg : Gl X "range") (hm : X.mg "range" = none) (ha : PA X [a] ta) (hs : starEach [a] X.env = [(false, eval a X.env)] := by rfl) : PI X tg (.Call (.Name "range" p) [a] [] pos) (iRng1 ta) := by
  intro pins s σ H R I h
  refine Call_ (ld_blt I hg hm boot_range (PyProof.Rows.callWith_type1 (thn (ha pos pins s σ H _ I h) fun us s1 ⟨vs, H1, I1, r1, q1⟩ => ?_) hs rfl))
  obtain ⟨j, e, q1, q2, q⟩ := q1
  subst e
  cases r1 with
  | cons r rr =>
    cases rr
    obtain ⟨t, rfl⟩ := r
    exact call_range_1 (range_it I1 (by omega) (by omega) q1 q2 (by simpa using q))
noncomputable def tFor (wi : TI) (g : TG) (tb : TS) : TS := fun D σ H => wi σ H fun J H1 => ∃ W : Nat → Nat → St → Hp → Prop, (∃ m, W 0 m σ H1) ∧ ∀ i m σ H, W i m σ H →
  (J.stop i H ∧ D.nx σ H) ∨ (J.go i H ∧ ∃ N : St → Hp → Prop, (∀ σ' H', N σ' H' → ∃ m', m' < m ∧ W (i + 1) m' σ' H') ∧ ∀ x H', J.yld i H x H' → g x σ H' fun σ2 H2 => tb { D with nx := N, ct := N, bk := D.nx } σ2 H2)
noncomputable def pinsAt (fp : List Addr) (h : Heap) : List (Addr × Obj) := fp.filterMap fun b => (h.get? b).map fun o => (b, o)
theorem mem_pinsAt {fp : List Addr} {h : Heap} {b : Addr} {o : Obj} (hb : b ∈ fp) (e : h.get? b = some o) : (b, o) ∈ pinsAt fp h := List.mem_filterMap.mpr ⟨b, hb, by rw [e]; rfl⟩
theorem of_pinsAt {fp : List Addr} {h : Heap} {p : Addr × Obj} (hp : p ∈ pinsAt fp h) : p.1 ∈ fp ∧ h.get? p.1 = some p.2 := by
  obtain ⟨b, hb, e⟩ := List.mem_filterMap.mp hp
  cases q : h.get? b with
  | none => rw [q] at e; cases e
  | some o =>
    rw [q] at e
    have e' : (b, o) = p := Option.some.inj e
    subst e'
    exact ⟨hb, q⟩
theorem Inv.pinned {pins : List (Addr × Obj)} {σ : St} {H : Hp} {s : Shared} {fp : List Addr} (I : Inv X pins σ H s) (hf : ∀ b ∈ fp, FpOk X pins H b) (ho : ∀ b ∈ fp, ∃ o, s.heap.get? b = some o ∧ ∀ v, o.data ≠ .cell v) : Inv X (pins ++ pinsAt fp s.heap) σ H s :=
  I.pins_of fun p hp => (List.mem_append.mp hp).elim (fun z => I.pin p (List.mem_append_right _ z)) fun z => by
    obtain ⟨hb, e⟩ := of_pinsAt z
    obtain ⟨f0, f1, f2, _⟩ := hf p.1 hb
    obtain ⟨o, e', d⟩ := ho p.1 hb
    rw [e] at e'; cases e'
    exact ⟨e, f0, f1, f2, d⟩
theorem Inv.unpinned {pins pl : List (Addr × Obj)} {σ : St} {H : Hp} {s : Shared} (I : Inv X (pins ++ pl) σ H s) : Inv X pins σ H s := I.pins_of fun p hp => I.pin p (List.mem_append_right _ (List.mem_append_left _ hp))
theorem ps_for {iter : Expr} {body : List Stmt} {wi : TI} {g : TG} {tb : TS} {pos : Pos} (hp : PassesOwn (model X.prog X.w) X.A X.env X.xe) (hc : X.calm = true) (hi : PI X tg iter wi) (hg : PG X tg g) (hb : PSs X body tb)
    (hs : ∀ x, foldedSetIterable iter X.env x = pure x := by intro _; rfl) : PS X (.For tg iter body [] pos) (tFor wi g tb) := by
  intro pins s σ H D I h
  refine wpAny_For (thn (hi pins s σ H _ I h) fun v s1 h1 => thn h1 fun itv s2 h2 => ?_) hs
  obtain ⟨it, fp, tn, J, H2, e, I2, T, st2, f2, W, ⟨m0, w0⟩, turn⟩ := h2
  subst e
  have stat : ∀ {H' : Hp}, (∀ b ∈ fp, H' b = none) → ∀ b ∈ fp, FpOk X pins H' b := fun hn b hb => ⟨hn b hb, (f2 b hb).2⟩
  refine codeAny_forLoop_any (fun n s' => ∃ i σ' H', Inv X pins σ' H' s' ∧ tn i s'.heap ∧ (∀ b ∈ fp, H' b = none) ∧ W i n σ' H') ?_ m0 ⟨0, σ, H2, I2, st2, fun b hb => (f2 b hb).1, w0⟩
  rintro n s3 ⟨i, σ3, H3, I3, st3, fr3, w3⟩
  rcases turn i n σ3 H3 w3 with ⟨stop, qn⟩ | ⟨go, N, hN, step⟩
  · refine wpAny_passesOwn hp (thn (T.done X rfl rfl rfl hc i pins s3 σ3 H3 X.xe I3 (stat fr3) st3 stop) fun r s4 ⟨hr, I4⟩ => ?_)
    subst hr
    exact wpAny_execs_nil ⟨σ3, H3, I4, qn⟩
  · refine wpAny_passesOwn hp (thn (T.item X rfl rfl rfl hc i pins s3 σ3 H3 X.xe I3 (stat fr3) st3 go) fun r s4 ⟨u, hr, h4⟩ => ?_)
    subst hr
    refine wpAny_passesOwn hp (thn h4 fun _ s5 ⟨x, H5, I5, r5, y5, st5, fr5⟩ => ?_)
    have I5' := I5.pinned (stat fr5) (T.obj _ _ st5)
    refine wpAny_passesOwn hp (thn (hg _ s5 σ3 H5 x u _ I5' r5 (step x H5 y5)) fun _ s6 ⟨σ6, H6, I6, q6⟩ => ?_)
    refine wpAny_passesOwn hp (thn (hb _ s6 σ6 H6 _ I6 q6) fun f s7 q7 => ?_)
    have again : ∀ {σ7 : St} {H7 : Hp}, Inv X (pins ++ pinsAt fp s5.heap) σ7 H7 s7 → N σ7 H7 → ∃ m, m < n ∧ ∃ i σ' H', Inv X pins σ' H' s7 ∧ tn i s7.heap ∧ (∀ b ∈ fp, H' b = none) ∧ W i m σ' H' := fun {σ7 H7} I7 n7 => by
      obtain ⟨m', hm, w7⟩ := hN σ7 H7 n7
      refine ⟨m', hm, i + 1, σ7, H7, I7.unpinned, T.keep _ _ _ st5 fun b hb o e => (I7.pin (b, o) (List.mem_append_right _ (List.mem_append_right _ (mem_pinsAt hb e)))).1, fun b hb => ?_, w7⟩
      obtain ⟨o, e, d⟩ := T.obj _ _ st5 b hb
      exact (I7.pin (b, o) (List.mem_append_right _ (List.mem_append_right _ (mem_pinsAt hb e)))).2.1
    cases f with
    | next => obtain ⟨σ7, H7, I7, n7⟩ := q7; exact again I7 n7
    | cont => obtain ⟨σ7, H7, I7, n7⟩ := q7; exact again I7 n7
    | brk => obtain ⟨σ7, H7, I7, q7⟩ := q7; exact ⟨σ7, H7, I7.unpinned, q7⟩
    | ret v => obtain ⟨x7, σ7, H7, I7, r7, q7⟩ := q7; exact ⟨x7, σ7, H7, I7.unpinned, r7, q7⟩
end
theorem for_list {K : PySem.W.Frag} {a : Addr} {xs : List V} {g : TG} {tb : TS} {D : Ends} {σ : St} {H : Hp} (Pv : Nat → St → Hp → Prop) (h0 : Pv 0 σ H) (hl : ∀ i σ H, i ≤ xs.length → Pv i σ H → SqL K H a xs)
    (hs : ∀ i x σ H, xs[i]? = some x → Pv i σ H → g x σ H fun σ2 H2 => tb { D with nx := Pv (i + 1), ct := Pv (i + 1), bk := D.nx } σ2 H2) (hd : ∀ σ H, Pv xs.length σ H → D.nx σ H) :
    ∃ W : Nat → Nat → St → Hp → Prop, (∃ m, W 0 m σ H) ∧ ∀ i m σ H, W i m σ H →
      ((Itl K a).stop i H ∧ D.nx σ H) ∨ ((Itl K a).go i H ∧ ∃ N : St → Hp → Prop, (∀ σ' H', N σ' H' → ∃ m', m' < m ∧ W (i + 1) m' σ' H') ∧ ∀ x H', (Itl K a).yld i H x H' → g x σ H' fun σ2 H2 => tb { D with nx := N, ct := N, bk := D.nx } σ2 H2) := by
  refine ⟨fun i m σ H => m = xs.length - i ∧ i ≤ xs.length ∧ Pv i σ H, ⟨xs.length, by simp, Nat.zero_le _, h0⟩, ?_⟩
  rintro i m σ H ⟨rfl, hi, p⟩
  have q := hl i σ H hi p
  by_cases hlt : i < xs.length
  · refine .inr ⟨⟨xs, xs[i], q, by simp [hlt]⟩, Pv (i + 1), fun σ' H' p' => ⟨xs.length - (i + 1), by omega, rfl, hlt, p'⟩, fun x H' y => ?_⟩
    obtain ⟨e, y⟩ := y
    subst e
    exact hs i x σ _ (y xs q) p
  · have e : i = xs.length := by omega
    subst e
    exact .inl ⟨⟨xs, q, Nat.le_refl _⟩, hd σ H p⟩
theorem for_tup {K : PySem.W.Frag} {a : Addr} {xs : List V} {g : TG} {tb : TS} {D : Ends} {σ : St} {H : Hp} (Pv : Nat → St → Hp → Prop) (h0 : Pv 0 σ H) (hl : ∀ i σ H, i ≤ xs.length → Pv i σ H → SqT K H a xs)
    (hs : ∀ i x σ H, xs[i]? = some x → Pv i σ H → g x σ H fun σ2 H2 => tb { D with nx := Pv (i + 1), ct := Pv (i + 1), bk := D.nx } σ2 H2) (hd : ∀ σ H, Pv xs.length σ H → D.nx σ H) :
    ∃ W : Nat → Nat → St → Hp → Prop, (∃ m, W 0 m σ H) ∧ ∀ i m σ H, W i m σ H →
      ((Itt K a).stop i H ∧ D.nx σ H) ∨ ((Itt K a).go i H ∧ ∃ N : St → Hp → Prop, (∀ σ' H', N σ' H' → ∃ m', m' < m ∧ W (i + 1) m' σ' H') ∧ ∀ x H', (Itt K a).yld i H x H' → g x σ H' fun σ2 H2 => tb { D with nx := N, ct := N, bk := D.nx } σ2 H2) := by
  refine ⟨fun i m σ H => m = xs.length - i ∧ i ≤ xs.length ∧ Pv i σ H, ⟨xs.length, by simp, Nat.zero_le _, h0⟩, ?_⟩
  rintro i m σ H ⟨rfl, hi, p⟩
  have q := hl i σ H hi p
  by_cases hlt : i < xs.length
  · refine .inr ⟨⟨xs, xs[i], q, by simp [hlt]⟩, Pv (i + 1), fun σ' H' p' => ⟨xs.length - (i + 1), by omega, rfl, hlt, p'⟩, fun x H' y => ?_⟩
    obtain ⟨e, y⟩ := y
    subst e
    exact hs i x σ _ (y xs q) p
  · have e : i = xs.length := by omega
    subst e
    exact .inl ⟨⟨xs, q, Nat.le_refl _⟩, hd σ H p⟩
theorem for_range {lo : Int} {n : Nat} {g : TG} {tb : TS} {D : Ends} {σ : St} {H : Hp} (Pv : Nat → St → Hp → Prop) (h0 : Pv 0 σ H)
    (hs : ∀ i σ H, i < n → Pv i σ H → g (.int (lo + i)) σ H fun σ2 H2 => tb { D with nx := Pv (i + 1), ct := Pv (i + 1), bk := D.nx } σ2 H2) (hd : ∀ σ H, Pv n σ H → D.nx σ H) :
    ∃ W : Nat → Nat → St → Hp → Prop, (∃ m, W 0 m σ H) ∧ ∀ i m σ H, W i m σ H →
      ((Itr lo n).stop i H ∧ D.nx σ H) ∨ ((Itr lo n).go i H ∧ ∃ N : St → Hp → Prop, (∀ σ' H', N σ' H' → ∃ m', m' < m ∧ W (i + 1) m' σ' H') ∧ ∀ x H', (Itr lo n).yld i H x H' → g x σ H' fun σ2 H2 => tb { D with nx := N, ct := N, bk := D.nx } σ2 H2) := by
  refine ⟨fun i m σ H => m = n - i ∧ i ≤ n ∧ Pv i σ H, ⟨n, by simp, Nat.zero_le _, h0⟩, ?_⟩
  rintro i m σ H ⟨rfl, hi, p⟩
  by_cases hlt : i < n
  · refine .inr ⟨hlt, Pv (i + 1), fun σ' H' p' => ⟨n - (i + 1), by omega, rfl, hlt, p'⟩, fun x H' y => ?_⟩
    obtain ⟨e, y⟩ := y
    subst e y
    exact hs i σ _ hlt p
  · have e : i = n := by omega
    subst e
    exact .inl ⟨Nat.le_refl _, hd σ H p⟩
end L2
namespace L2
open PySem PySem.Spec PyProof.Rows
noncomputable abbrev R2 := V → V → Hp → VK → Prop
noncomputable def OpR (X : Cx) (f : Value → Value → Sem Value) (r : R2) : Prop :=
  ∀ (pins : List (Addr × Obj)) (s : Shared) (σ : St) (H : Hp) (x y : V) (v u : Value) (Q : VK), Inv X pins σ H s → RelV x v → RelV y u → r x y H Q →
    wpAny (model X.prog X.w) X.A (f v u) (EP X pins σ Q) X.xe s
noncomputable def UnR (X : Cx) (f : Value → Sem Value) (r : V → Hp → VK → Prop) : Prop :=
  ∀ (pins : List (Addr × Obj)) (s : Shared) (σ : St) (H : Hp) (x : V) (v : Value) (Q : VK), Inv X pins σ H s → RelV x v → r x H Q →
    wpAny (model X.prog X.w) X.A (f v) (EP X pins σ Q) X.xe s
noncomputable def CallR (X : Cx) (f : Value) (r : List V → Hp → VK → Prop) : Prop :=
  ∀ (pins : List (Addr × Obj)) (s : Shared) (σ : St) (H : Hp) (xs : List V) (us : List Value) (Q : VK), Inv X pins σ H s → Vals xs us → r xs H Q →
    wpAny (model X.prog X.w) X.A (call f us) (EP X pins σ Q) X.xe s
noncomputable def tOp (r : R2) (ta tb : TE) : TE := fun σ H Q => ta σ H fun x H1 => tb σ H1 fun y H2 => r x y H2 Q
noncomputable def tUn (r : V → Hp → VK → Prop) (ta : TE) : TE := fun σ H Q => ta σ H fun x H1 => r x H1 Q
inductive rI (C : Int → Int → Prop) (g : Int → Int → V) (x y : V) (H : Hp) (Q : VK) : Prop
  | mk (i j : Int) (ex : x = .int i) (ey : y = .int j) (c : C i j) (q : Q (g i j) H) : rI C g x y H Q
inductive rI0 (g : Int → Int → V) (x y : V) (H : Hp) (Q : VK) : Prop
  | mk (i j : Int) (ex : x = .int i) (ey : y = .int j) (q : Q (g i j) H) : rI0 g x y H Q
inductive rU (g : Int → V) (x : V) (H : Hp) (Q : VK) : Prop
  | mk (i : Int) (ex : x = .int i) (q : Q (g i) H) : rU g x H Q
section
variable {X : Cx} {a b c : Expr} {ta tb tc : TE} {pos : Pos}
theorem binT (ha : PE X a ta) (hb : PE X b tb) {pins : List (Addr × Obj)} {s : Shared} {σ : St} {H : Hp} {R : V → V → Hp → Prop} (I : Inv X pins σ H s)
    (h : ta σ H fun x H1 => tb σ H1 fun y H2 => R x y H2) {Q : Value → Shared → Prop} {f : Value → Value → Sem Value}
    (hf : ∀ v u s2 x y H2, Inv X pins σ H2 s2 → RelV x v → RelV y u → R x y H2 → wpAny (model X.prog X.w) X.A (f v u) Q X.xe s2) :
    wpAny (model X.prog X.w) X.A (eval a X.env) (fun v s₁ => wpAny (model X.prog X.w) X.A (eval b X.env) (fun u s₂ => wpAny (model X.prog X.w) X.A (f v u) Q X.xe s₂) X.xe s₁) X.xe s := by
  refine thn (ha pins s σ H _ I h) fun v s1 ⟨x, H1, I1, r1, q1⟩ => ?_
  refine thn (hb pins s1 σ H1 _ I1 q1) fun u s2 ⟨y, H2, I2, r2, q2⟩ => ?_
  exact hf v u s2 x y H2 I2 r1 r2 q2
theorem pe_op {op : Operator} {r : R2} (ho : OpR X (binaryOp op) r) (ha : PE X a ta) (hb : PE X b tb) : PE X (.BinOp a op b pos) (tOp r ta tb) := by
  intro pins s σ H Q I h
  exact wpAny_BinOp (binT ha hb I h fun v u s2 x y H2 I2 rx ry q => ho pins s2 σ H2 x y v u Q I2 rx ry q)
theorem pe_un {op : UnaryOp} {r : V → Hp → VK → Prop} (ho : UnR X (unaryOp op) r) (ha : PE X a ta) : PE X (.UnaryOp op a pos) (tUn r ta) := by
  intro pins s σ H Q I h
  exact UnaryOp_ (thn (ha pins s σ H _ I h) fun v s1 ⟨x, H1, I1, r1, q1⟩ => ho pins s1 σ H1 x v Q I1 r1 q1)
theorem opI {f : Value → Value → Sem Value} {C : Int → Int → Prop} {g : Int → Int → Int}
    (rule : ∀ (i j : Int) (t u : Tok) (s : Shared) (Q : Value → Shared → Prop) (E : Value → Shared → Prop), C i j → Q (.int (g i j) s.toks) { s with toks := s.toks + 1 } → wpAny (model X.prog X.w) X.A (f (.int i t) (.int j u)) Q E s) :
    OpR X f (rI C fun i j => .int (g i j)) := by
  intro pins s σ H x y v u Q I rx ry h
  obtain ⟨i, j, rfl, rfl, hc, q⟩ := h
  obtain ⟨t, rfl⟩ := rx
  obtain ⟨t', rfl⟩ := ry
  exact rule i j t t' s _ _ hc ⟨.int (g i j), H, I.tok _, ⟨_, rfl⟩, q⟩
theorem opI0 {f : Value → Value → Sem Value} {g : Int → Int → Int}
    (rule : ∀ (i j : Int) (t u : Tok) (s : Shared) (Q : Value → Shared → Prop) (E : Value → Shared → Prop), Q (.int (g i j) s.toks) { s with toks := s.toks + 1 } → wpAny (model X.prog X.w) X.A (f (.int i t) (.int j u)) Q E s) :
    OpR X f (rI0 fun i j => .int (g i j)) := by
  intro pins s σ H x y v u Q I rx ry h
  obtain ⟨i, j, rfl, rfl, q⟩ := h
  obtain ⟨t, rfl⟩ := rx
  obtain ⟨t', rfl⟩ := ry
  exact rule i j t t' s _ _ ⟨.int (g i j), H, I.tok _, ⟨_, rfl⟩, q⟩
theorem opB0 {f : Value → Value → Sem Value} {g : Int → Int → Bool}
    (rule : ∀ (i j : Int) (t u : Tok) (s : Shared) (Q : Value → Shared → Prop) (E : Value → Shared → Prop), Q (.bool (g i j)) s → wpAny (model X.prog X.w) X.A (f (.int i t) (.int j u)) Q E s) :
    OpR X f (rI0 fun i j => .bl (g i j)) := by
  intro pins s σ H x y v u Q I rx ry h
  obtain ⟨i, j, rfl, rfl, q⟩ := h
  obtain ⟨t, rfl⟩ := rx
  obtain ⟨t', rfl⟩ := ry
  exact rule i j t t' s _ _ ⟨.bl (g i j), H, I, rfl, q⟩
noncomputable def CDiv (i j : Int) : Prop := 0 < j ∧ j < 1073741824
noncomputable def CPow (i j : Int) : Prop := 0 ≤ j ∧ j ≤ 1000000 ∧ i.natAbs < 2 ^ 64
noncomputable def CMul (i j : Int) : Prop := (-(2 ^ 64) < i ∧ i < 2 ^ 64) ∨ (-(2 ^ 64) < j ∧ j < 2 ^ 64)
theorem CMul.ok {i j : Int} (h : CMul i j) : IntMulOk i j := by
  rcases h with ⟨h1, h2⟩ | ⟨h1, h2⟩
  · exact .of_left (intBits_le_64 h1 h2)
  · exact .of_right (intBits_le_64 h1 h2)
theorem op_add : OpR X (binaryOp .Add) (rI0 fun i j => .int (i + j)) := opI0 fun _ _ _ _ _ _ _ q => add_int q
theorem op_sub : OpR X (binaryOp .Sub) (rI0 fun i j => .int (i - j)) := opI0 fun _ _ _ _ _ _ _ q => sub_int q
theorem op_mul : OpR X (binaryOp .Mult) (rI CMul fun i j => .int (i * j)) := opI fun _ _ _ _ _ _ _ hc q => mul_int q hc.ok
theorem op_fdiv : OpR X (binaryOp .FloorDiv) (rI CDiv fun i j => .int (i / j)) := opI fun i j _ _ _ _ _ hc q => by
  have h1 : (0 : Int) < j := hc.1
  have h2 : j < 1073741824 := hc.2
  exact floordiv_int (by omega) (by rw [Int.fdiv_eq_ediv_of_nonneg i (by omega)]; exact q) (.inl (PyProof.noPylong_small (by omega)))
theorem op_mod : OpR X (binaryOp .Mod) (rI (fun _ j => 0 < j) fun i j => .int (i % j)) := opI fun i j _ _ _ _ _ hc q => by
  have h1 : (0 : Int) < j := hc
  exact mod_int' (by omega) (by rw [Int.fmod_eq_emod_of_nonneg i (by omega)]; exact q)
theorem op_pow : OpR X (binaryOp .Pow) (rI CPow fun i j => .int (i ^ j.toNat)) := opI fun _ _ _ _ _ _ _ hc q => pow_int_small hc.1 hc.2.1 hc.2.2 q
theorem unI {f : Value → Sem Value} {g : Int → Int}
    (rule : ∀ (i : Int) (t : Tok) (s : Shared) (Q : Value → Shared → Prop) (E : Value → Shared → Prop), Q (.int (g i) s.toks) { s with toks := s.toks + 1 } → wpAny (model X.prog X.w) X.A (f (.int i t)) Q E s) :
    UnR X f (rU fun i => .int (g i)) := by
  intro pins s σ H x v Q I rx h
  obtain ⟨i, rfl, q⟩ := h
  obtain ⟨t, rfl⟩ := rx
  exact rule i t s _ _ ⟨.int (g i), H, I.tok _, ⟨_, rfl⟩, q⟩
theorem un_neg : UnR X (unaryOp .USub) (rU fun i => .int (-i)) := unI fun _ _ _ _ _ q => neg_int q
end
noncomputable def scal : V → V → Bool
  | .non, .non => true | .non, .int _ => true | .int _, .non => true | .non, .bl _ => true | .bl _, .non => true | .non, .str _ => true | .str _, .non => true
  | .int _, .int _ => true | .bl _, .bl _ => true | .str _, .str _ => true | .byt _, .byt _ => true
  | .int _, .str _ => true | .str _, .int _ => true | .bl _, .str _ => true | .str _, .bl _ => true
  | _, _ => false
inductive rEq (x y : V) (H : Hp) (Q : VK) : Prop
  | mk (s : scal x y = true) (q : Q (.bl (decide (x = y))) H) : rEq x y H Q
inductive rNe (x y : V) (H : Hp) (Q : VK) : Prop
  | mk (s : scal x y = true) (q : Q (.bl (!decide (x = y))) H) : rNe x y H Q
theorem dec_int {i j : Int} : decide (V.int i = V.int j) = (i == j) := by
  rw [Bool.eq_iff_iff]
  simp
theorem dec_bl {i j : Bool} : decide (V.bl i = V.bl j) = (i == j) := by
  rw [Bool.eq_iff_iff]
  simp
theorem dec_str {i j : Str} : decide (V.str i = V.str j) = (i == j) := by
  rw [Bool.eq_iff_iff]
  simp
theorem dec_byt {i j : Array UInt8} : decide (V.byt i = V.byt j) = (i.toList == j.toList) := by
  rw [Bool.eq_iff_iff]
  cases i
  cases j
  simp
section
variable {X : Cx} {a b c : Expr} {ta tb tc : TE} {pos : Pos}
theorem fin_bl {pins : List (Addr × Obj)} {σ : St} {H : Hp} {s : Shared} {Q : VK} {k k' : Bool} (I : Inv X pins σ H s) (q : Q (.bl k) H) (e : k = k') : EP X pins σ Q (.bool k') s := by
  subst e
  exact ⟨.bl k, H, I, rfl, q⟩
theorem op_eq : OpR X (compareOp .Eq) rEq := by
  intro pins s σ H x y v u Q I rx ry h
  obtain ⟨hs, q⟩ := h
  cases x with
  | non =>
    cases rx
    cases y with
    | non => cases ry; exact PySem.EqNone.eq_none_none (fin_bl I q (by simp))
    | bl j => cases ry; exact PySem.EqNone.eq_none_bool (fin_bl I q (by simp))
    | int j => obtain ⟨t', rfl⟩ := ry; exact PySem.EqNone.eq_none_int (fin_bl I q (by simp))
    | str j => obtain ⟨t', rfl⟩ := ry; exact PySem.EqNone.eq_none_str (fin_bl I q (by simp))
    | _ => exact absurd (show false = true from hs) Bool.false_ne_true
  | bl i =>
    cases rx
    cases y with
    | non => cases ry; exact PySem.EqNone.eq_bool_none (fin_bl I q (by simp))
    | bl j => cases ry; exact eq_bool (fin_bl I q dec_bl)
    | str j => obtain ⟨t', rfl⟩ := ry; exact PySem.EqMixed.eq_bool_str (fin_bl I q (by simp))
    | _ => exact absurd (show false = true from hs) Bool.false_ne_true
  | int i =>
    obtain ⟨t, rfl⟩ := rx
    cases y with
    | non => cases ry; exact PySem.EqNone.eq_int_none (fin_bl I q (by simp))
    | int j => obtain ⟨t', rfl⟩ := ry; exact eq_int (fin_bl I q dec_int)
    | str j => obtain ⟨t', rfl⟩ := ry; exact PySem.EqMixed.eq_int_str (fin_bl I q (by simp))
    | _ => exact absurd (show false = true from hs) Bool.false_ne_true
  | str i =>
    obtain ⟨t, rfl⟩ := rx
    cases y with
    | non => cases ry; exact PySem.EqNone.eq_str_none (fin_bl I q (by simp))
    | bl j => cases ry; exact PySem.EqMixed.eq_str_bool (fin_bl I q (by simp))
    | int j => obtain ⟨t', rfl⟩ := ry; exact PySem.EqMixed.eq_str_int (fin_bl I q (by simp))
    | str j => obtain ⟨t', rfl⟩ := ry; exact eq_str (fin_bl I q dec_str)
    | _ => exact absurd (show false = true from hs) Bool.false_ne_true
  | byt i =>
    obtain ⟨t, rfl⟩ := rx
    cases y with
    | byt j => obtain ⟨t', rfl⟩ := ry; exact PySem.W.eq_bytes (fin_bl I q dec_byt)
    | _ => exact absurd (show false = true from hs) Bool.false_ne_true
  | _ => cases y <;> exact absurd (show false = true from hs) Bool.false_ne_true
theorem op_ne : OpR X (compareOp .NotEq) rNe := by
  intro pins s σ H x y v u Q I rx ry h
  obtain ⟨hs, q⟩ := h
  cases x with
  | non =>
    cases rx
    cases y with
    | non => cases ry; exact PySem.EqNone.ne_none_none (fin_bl I q (by simp))
    | bl j => cases ry; exact PySem.EqNone.ne_none_bool (fin_bl I q (by simp))
    | int j => obtain ⟨t', rfl⟩ := ry; exact PySem.EqNone.ne_none_int (fin_bl I q (by simp))
    | str j => obtain ⟨t', rfl⟩ := ry; exact PySem.EqNone.ne_none_str (fin_bl I q (by simp))
    | _ => exact absurd (show false = true from hs) Bool.false_ne_true
  | bl i =>
    cases rx
    cases y with
    | non => cases ry; exact PySem.EqNone.ne_bool_none (fin_bl I q (by simp))
    | bl j => cases ry; exact ne_bool (fin_bl I q (congrArg not dec_bl))
    | str j => obtain ⟨t', rfl⟩ := ry; exact PySem.EqMixed.ne_bool_str (fin_bl I q (by simp))
    | _ => exact absurd (show false = true from hs) Bool.false_ne_true
  | int i =>
    obtain ⟨t, rfl⟩ := rx
    cases y with
    | non => cases ry; exact PySem.EqNone.ne_int_none (fin_bl I q (by simp))
    | int j => obtain ⟨t', rfl⟩ := ry; exact ne_int (fin_bl I q (congrArg not dec_int))
    | str j => obtain ⟨t', rfl⟩ := ry; exact PySem.EqMixed.ne_int_str (fin_bl I q (by simp))
    | _ => exact absurd (show false = true from hs) Bool.false_ne_true
  | str i =>
    obtain ⟨t, rfl⟩ := rx
    cases y with
    | non => cases ry; exact PySem.EqNone.ne_str_none (fin_bl I q (by simp))
    | bl j => cases ry; exact PySem.EqMixed.ne_str_bool (fin_bl I q (by simp))
    | int j => obtain ⟨t', rfl⟩ := ry; exact PySem.EqMixed.ne_str_int (fin_bl I q (by simp))
    | str j => obtain ⟨t', rfl⟩ := ry; exact ne_str (fin_bl I q (congrArg not dec_str))
    | _ => exact absurd (show false = true from hs) Bool.false_ne_true
  | byt i =>
    obtain ⟨t, rfl⟩ := rx
    cases y with
    | byt j => obtain ⟨t', rfl⟩ := ry; exact PySem.W.ne_bytes (fin_bl I q (congrArg not dec_byt))
    | _ => exact absurd (show false = true from hs) Bool.false_ne_true
  | _ => cases y <;> exact absurd (show false = true from hs) Bool.false_ne_true
theorem op_lt : OpR X (compareOp .Lt) (rI0 fun i j => .bl (decide (i < j))) := opB0 fun _ _ _ _ _ _ _ q => lt_int q
theorem op_le : OpR X (compareOp .LtE) (rI0 fun i j => .bl (decide (i ≤ j))) := opB0 fun _ _ _ _ _ _ _ q => le_int q
theorem op_gt : OpR X (compareOp .Gt) (rI0 fun i j => .bl (decide (j < i))) := opB0 fun _ _ _ _ _ _ _ q => gt_int q
theorem nomark (b : Expr) {op : CmpOp} (h : op ≠ .In := by decide) (h2 : op ≠ .NotIn := by decide) : behindInMarks op b = false := by
  have e1 : (op == CmpOp.In) = false := by cases op <;> first | rfl | exact absurd rfl h
  have e2 : (op == CmpOp.NotIn) = false := by cases op <;> first | rfl | exact absurd rfl h2
  cases b <;> simp [behindInMarks, e1, e2]
theorem pe_cmpR {op : CmpOp} {r : R2} (ho : OpR X (compareOp op) r) (ha : PE X a ta) (hb : PE X b tb) (hm : behindInMarks op b = false) : PE X (.Compare a [op] [b] pos) (tOp r ta tb) := by
  intro pins s σ H Q I h
  exact wpAny_Compare1 (binT ha hb I h fun v u s2 x y H2 I2 rx ry q => ho pins s2 σ H2 x y v u Q I2 rx ry q) hm
noncomputable def tTest (t : TE) : TT := fun σ H Q => t σ H (isBl Q)
theorem pt_cmpR {op : CmpOp} {r : R2} (ho : OpR X (compareOp op) r) (ha : PE X a ta) (hb : PE X b tb) (hm : behindInMarks op b = false) : PT X (.Compare a [op] [b] pos) (tTest (tOp r ta tb)) := by
  intro pins s σ H Q I h
  refine wpAny_isTrue_Compare1 (thn (ha pins s σ H _ I h) fun v s1 ⟨x, H1, I1, r1, q1⟩ => thn (hb pins s1 σ H1 _ I1 q1) fun u s2 ⟨y, H2, I2, r2, q2⟩ =>
    thn (ho pins s2 σ H2 x y v u _ I2 r1 r2 q2) fun c s3 ⟨z, H3, I3, r3, k, e, q3⟩ => ?_) hm
  subst e
  cases r3
  exact wpAny_truthy_bool ⟨H3, I3, q3⟩
noncomputable def tChain (r r' : R2) (ta tb tc : TE) : TE := fun σ H Q => ta σ H fun x H1 => tb σ H1 fun y H2 => r x y H2 fun z H3 => ∃ k, z = .bl k ∧
  (if k = true then tc σ H3 fun w' H4 => r' y w' H4 Q else Q (.bl false) H3)
theorem pe_chain {op op' : CmpOp} {r r' : R2} (ho : OpR X (compareOp op) r) (ho' : OpR X (compareOp op') r') (ha : PE X a ta) (hb : PE X b tb) (hc : PE X c tc)
    (hm : lastMarks [op, op'] [b, c] = false := by with_unfolding_all rfl) : PE X (.Compare a [op, op'] [b, c] pos) (tChain r r' ta tb tc) := by
  intro pins s σ H Q I h
  refine Compare_chain (thn (ha pins s σ H _ I h) fun v s1 ⟨x, H1, I1, r1, q1⟩ => chain_link (thn (hb pins s1 σ H1 _ I1 q1) fun u s2 ⟨y, H2, I2, r2, q2⟩ =>
    thn (ho pins s2 σ H2 x y v u _ I2 r1 r2 q2) fun d s3 ⟨z, H3, I3, r3, k, e, q3⟩ => ?_)) hm
  subst e
  cases r3
  refine wpAny_truthy_bool ?_
  cases k with
  | false => exact ite_ff ⟨.bl false, H3, I3, rfl, q3⟩
  | true => exact ite_tt (chain_last (thn (hc pins s3 σ H3 _ I3 q3) fun w' s4 ⟨z', H4, I4, r4, q4⟩ => ho' pins s4 σ H4 y z' u w' Q I4 r2 r4 q4))
theorem pt_chain {op op' : CmpOp} {r r' : R2} (ho : OpR X (compareOp op) r) (ho' : OpR X (compareOp op') r') (ha : PE X a ta) (hb : PE X b tb) (hc : PE X c tc)
    (hm : lastMarks [op, op'] [b, c] = false := by with_unfolding_all rfl) : PT X (.Compare a [op, op'] [b, c] pos) (tTest (tChain r r' ta tb tc)) := by
  intro pins s σ H Q I h
  refine isTrue_chain (thn (ha pins s σ H _ I h) fun v s1 ⟨x, H1, I1, r1, q1⟩ => test_link (thn (hb pins s1 σ H1 _ I1 q1) fun u s2 ⟨y, H2, I2, r2, q2⟩ =>
    thn (ho pins s2 σ H2 x y v u _ I2 r1 r2 q2) fun d s3 ⟨z, H3, I3, r3, k, e, q3⟩ => ?_)) hm
  subst e
  cases r3
  refine wpAny_truthy_bool ?_
  cases k with
  | false =>
    obtain ⟨k', e', q'⟩ := q3
    cases e'
    exact ite_ff ⟨H3, I3, q'⟩
  | true =>
    refine ite_tt (test_last (thn (hc pins s3 σ H3 _ I3 q3) fun w' s4 ⟨z', H4, I4, r4, q4⟩ => thn (ho' pins s4 σ H4 y z' u w' _ I4 r2 r4 q4) fun d' s5 ⟨z2, H5, I5, r5, k2, e2, q5⟩ => ?_))
    subst e2
    cases r5
    exact wpAny_truthy_bool ⟨H5, I5, q5⟩
theorem line63 : (sizeLine : Nat) < 2 ^ 63 := by rw [sizeLine_eq]; decide
theorem vals1 {x : V} {us : List Value} (r : Vals [x] us) : ∃ u, us = [u] ∧ RelV x u := by
  cases r with
  | cons r1 r2 => cases r2; exact ⟨_, rfl, r1⟩
theorem vals2 {x y : V} {us : List Value} (r : Vals [x, y] us) : ∃ u w', us = [u, w'] ∧ RelV x u ∧ RelV y w' := by
  cases r with
  | cons r1 r2 =>
    cases r2 with
    | cons r3 r4 => cases r4; exact ⟨_, _, rfl, r1, r3⟩
theorem call_min2 (hc : X.calm = true) : CallR X (.builtin "min") (fun xs H Q => ∃ i j, xs = [.int i, .int j] ∧ Q (.int (if j < i then j else i)) H) := by
  intro pins s σ H xs us Q I r h
  obtain ⟨i, j, rfl, q⟩ := h
  obtain ⟨u, w', rfl, ⟨t, rfl⟩, ⟨t', rfl⟩⟩ := vals2 r
  refine min_two_ints (I.ok.hd hc) fun h' tk k => ⟨_, H, I.kept k, ?_, q⟩
  by_cases hj : j < i
  · rw [if_pos hj, if_pos hj]; exact ⟨_, rfl⟩
  · rw [if_neg hj, if_neg hj]; exact ⟨_, rfl⟩
end
end L2
namespace L2
open PySem PySem.Spec PyProof.Rows
structure ObjM (h : Heap) (x dx C : Addr) (mA : Str → Option Value) : Prop where
  obj : h.get? x = some (PySem.W.instObj C dx)
  ns : h.Ns1 dx mA
  ne : dx ≠ x
theorem lookIn_ns {h : Heap} {dx : Addr} {mA : Str → Option Value} (n : h.Ns1 dx mA) : ∃ od, h.get? dx = some od ∧ ∀ name, PySem.W.lookIn name od = some (mA name) := by
  obtain ⟨o, es, ep, ho, hd, hk, _, hm⟩ := n
  refine ⟨o, ho, fun name => ?_⟩
  have e := hm name
  unfold nsFind findBy at e
  rw [← Array.find?_toList] at e
  unfold PySem.W.lookIn
  rw [hd]
  dsimp only
  split
  · rename_i y q
    rw [q] at e
    exact congrArg some e
  · rename_i q
    rw [q] at e
    have a : es.toList.any (·.refKey) = false := by
      rw [List.any_eq_false]
      intro y hy
      obtain ⟨z, t, hkey⟩ := hk y (Array.mem_toList_iff.mp hy)
      simp [DictEntry.refKey, hkey]
    have a' : ¬ es.toList.any (·.refKey) = true := by rw [a]; exact Bool.false_ne_true
    rw [if_neg a']
    exact congrArg some e
theorem ObjM.look {h : Heap} {x dx C : Addr} {mA : Str → Option Value} (I : ObjM h x dx C mA) : ∃ od, PySem.W.InstAt h x (PySem.W.instObj C dx) C (some od) ∧ ∀ name, PySem.W.lookIn name od = some (mA name) :=
  let ⟨od, ho, hl⟩ := lookIn_ns I.ns
  ⟨od, ⟨I.obj, rfl, rfl, ho⟩, hl⟩
section
variable {prog : Program} {w : World} {A : Around} {E : Value → Shared → Prop} {s : Shared} {K : PySem.W.Frag} {x dx C f : Addr} {mA : Str → Option Value} {name : Str} {v : Value}
end
section
variable {P : Program} {w : World} {H H' : Hp} {h h' : Heap} {a C dx : Addr} {fs fs' : List (Str × V)}
theorem ins_get (hok : HOk P w H h) (e : H a = some (.ins C dx fs)) : ∃ mA, ObjM h a dx C mA ∧ (∀ f, RelO (fs.lookup f) (mA f)) ∧ PySem.Within mA (fs.map (·.1)) ∧ fs.length ≤ 1000 ∧ H dx = some (.own a) := by
  obtain ⟨d, z, ne, ob, mA, n, r, q⟩ := (show ObjOk P w H h a (.ins C dx fs) from hok a _ e)
  exact ⟨mA, ⟨ob, n, ne⟩, r, q, z, d⟩
end
structure Cls (K : PySem.W.Frag) (C : Addr) : Prop where
  pg : PySem.W.plainGet K C Str.empty = true
  hd : PySem.W.hasDictIn K C = true
  po : PySem.W.plainOver K C = true
  sa : PySem.W.findIn K (.ref C) "__setattr__" = some (some (.builtin "object.__setattr__"))
theorem Cls.get {K : PySem.W.Frag} {C : Addr} (c : Cls K C) (f : Str) : PySem.W.plainGet K C f = true := c.pg
section
variable {X : Cx} {pins : List (Addr × Obj)} {σ : St} {H : Hp} {s : Shared} {a C dx : Addr} {fs : List (Str × V)} {f : Str} {v : V} {A : Around} {E : Value → Shared → Prop}
end
section
variable {X : Cx} {o e value : Expr} {f : Str} {pos pos' tpos : Pos} {ta tv : TE}
end
section
variable {X : Cx} {pins : List (Addr × Obj)} {σ : St} {H : Hp} {s : Shared} {A : Around} {E : Value → Shared → Prop} {Q : Value → Shared → Prop} {c : Value} {b : Bool}
inductive TyOf (K : PySem.W.Frag) (H : Hp) : V → Value → Prop where
  | non : TyOf K H .non (.type "NoneType")
  | bl (x : Bool) : TyOf K H (.bl x) (.type "bool")
  | int (i : Int) : TyOf K H (.int i) (.type "int")
  | str (x : Str) : TyOf K H (.str x) (.type "str")
  | flt (x : UInt64) : TyOf K H (.flt x) (.type "float")
  | lst {a : Addr} {xs : List V} (e : H a = some (.lst xs)) : TyOf K H (.ref a) (.type "list")
  | frz {a : Addr} {o : Obj} {xs : List V} (e : H a = some (.frz o (.lst xs))) : TyOf K H (.ref a) (.type "list")
  | tup {a : Addr} {xs : List V} (e : H a = some (.tup xs)) : TyOf K H (.ref a) (.type "tuple")
  | dK {a : Addr} {kvs : List (Key × V)} (e : H a = some (.dK kvs)) : TyOf K H (.ref a) (.type "dict")
  | dT {a : Addr} {kvs : List (List Key × V)} (e : H a = some (.dT kvs)) : TyOf K H (.ref a) (.type "dict")
  | ins {a C dx : Addr} {fs : List (Str × V)} (e : H a = some (.ins C dx fs)) (cl : Cls K C) (ha : PySem.W.findIn K (.ref C) "__class__" = some (some (.builtin "object.__class__")))
      (hn : PySem.W.specialIn K (.builtin "object.__class__") "__get__" = some (some (.builtin "getset_descriptor.__get__"))) (htk : PySem.W.takesIn K (.builtin "object.__class__") = some true)
      (hm : PySem.W.mroIn K C (.type "object") = some true) : TyOf K H (.ref a) (.ref C)
theorem isinst_ok {x : V} {u t : Value} (I : Inv X pins σ H s) (rx : RelV x u) (ty : TyOf X.K H x t) (e : PySem.W.kitOne X.K t c = some b) (h : ∀ tk, Q (.bool b) { s with toks := tk }) :
    wpAny (model X.prog X.w) A (call (.builtin "isinstance") [u, c]) Q E s := by
  cases ty with
  | non => cases (show u = Value.none from rx); exact PySem.W.kia_one PySem.W.kitx_none I.kIn True.intro e (fun z => nomatch z) h
  | bl y => cases (show u = Value.bool y from rx); exact PySem.W.kia_one PySem.W.kitx_bool I.kIn True.intro e (fun z => nomatch z) h
  | int i => obtain ⟨t, q⟩ := (show ∃ t, u = Value.int i t from rx); cases q; exact PySem.W.kia_one PySem.W.kitx_int I.kIn True.intro e (fun z => nomatch z) h
  | str y => obtain ⟨t, q⟩ := (show ∃ t, u = Value.str y t from rx); cases q; exact PySem.W.kia_one PySem.W.kitx_str I.kIn True.intro e (fun z => nomatch z) h
  | flt y => obtain ⟨t, q⟩ := (show ∃ t, u = Value.float y t from rx); cases q; exact PySem.W.kia_one PySem.W.kitx_float I.kIn True.intro e (fun z => nomatch z) h
  | @lst a xs ea =>
    cases (show u = Value.ref a from rx)
    obtain ⟨_, _, n, _, h1⟩ := (show ObjOk X.prog X.w H s.heap a (.lst xs) from I.hok a _ ea)
    exact PySem.W.kia_one PySem.W.kitx_list I.kIn ⟨_, h1, rfl⟩ e (fun z => nomatch z) h
  | @frz a ob xs ea =>
    cases (show u = Value.ref a from rx)
    obtain ⟨_, _, _, n, _, h1⟩ := (show ObjOk X.prog X.w H s.heap a (.frz ob (.lst xs)) from I.hok a _ ea)
    exact PySem.W.kia_one PySem.W.kitx_list I.kIn ⟨_, h1, rfl⟩ e (fun z => nomatch z) h
  | @tup a xs ea =>
    cases (show u = Value.ref a from rx)
    obtain ⟨_, _, _, p⟩ := (show ObjOk X.prog X.w H s.heap a (.tup xs) from I.hok a _ ea)
    obtain ⟨o, h1, h2, _⟩ := p
    exact PySem.W.kia_one PySem.W.kitx_tuple I.kIn ⟨o, h1, h2⟩ e (fun z => nomatch z) h
  | @dK a kvs ea =>
    cases (show u = Value.ref a from rx)
    obtain ⟨_, _, vs, _, p⟩ := (show ObjOk X.prog X.w H s.heap a (.dK kvs) from I.hok a _ ea)
    obtain ⟨o, es, ep, h1, h2, _⟩ := p
    exact PySem.W.kia_one PySem.W.kitx_dict I.kIn ⟨o, h1, h2.1⟩ e (fun z => nomatch z) h
  | @dT a kvs ea =>
    cases (show u = Value.ref a from rx)
    obtain ⟨_, _, xs, _, o, es, ep, h1, h2, _⟩ := (show ObjOk X.prog X.w H s.heap a (.dT kvs) from I.hok a _ ea)
    exact PySem.W.kia_one PySem.W.kitx_dict I.kIn ⟨o, h1, h2.1⟩ e (fun z => nomatch z) h
  | @ins a C dx fs ea cl ha hn htk hm =>
    cases (show u = Value.ref a from rx)
    obtain ⟨mA, O, _⟩ := ins_get I.hok ea
    obtain ⟨od, J, _⟩ := O.look
    exact PySem.W.kia_one (PySem.W.kitx_own (cl.get _) cl.hd ha hn htk hm) I.kIn J e (fun z => nomatch z) h
end
end L2
namespace L2
open PySem PySem.Spec PyProof.Rows
structure Room (k : Nat) (A : Around) : Prop where
  hd : A.handled = none
  dp : A.depth + 3 * k + 5 < recursionLimit
  un : A.units + 16 * k + 200 < cLine
theorem Room.mono {j k : Nat} {A : Around} (r : Room k A) (h : j ≤ k) : Room j A := ⟨r.hd, by have := r.dp; omega, by have := r.un; omega⟩
theorem Room.deeper {k : Nat} {A : Around} (r : Room (k + 1) A) (env : Env) : Room k (A.deeper env) :=
  ⟨r.hd, by have := r.dp; show A.depth + 1 + 3 * k + 5 < _; omega, by have := r.un; show A.units + 3 + 16 * k + 200 < _; omega⟩
theorem Room.depth {k : Nat} {A : Around} (r : Room k A) : A.depth < recursionLimit := by have := r.dp; omega
theorem Room.units {k : Nat} {A : Around} (r : Room k A) : A.units + 64 < cLine := by have := r.un; omega
noncomputable def tNil : TA := fun _ H Q => Q [] H
noncomputable def tCons (ta : TE) (tr : TA) : TA := fun σ H Q => ta σ H fun x H1 => tr σ H1 fun xs H2 => Q (x :: xs) H2
section
variable {X : Cx} {e : Expr} {es : List Expr} {te : TE} {t : TA} {pos : Pos}
theorem pa_nil : PA X [] tNil := fun _ _ _ _ H Q I h => Calls.spliced_nil ⟨[], H, I, .nil, h⟩
theorem pa_cons (ha : PE X e te) (hr : PA X es t) (hs : starEach (e :: es) X.env = (false, eval e X.env) :: starEach es X.env := by rfl) : PA X (e :: es) (tCons te t) := by
  intro pos pins s σ H Q I h
  rw [hs]
  show wpAny _ _ (spliced ((false, eval e X.env) :: backTo pos (starEach es X.env))) _ _ s
  refine Calls.spliced_cons (thn (ha pins s σ H _ I h) fun u s1 ⟨x, H1, I1, r1, q1⟩ => ?_)
  exact thn (hr pos pins s1 σ H1 _ I1 q1) fun us s2 ⟨xs, H2, I2, r2, q2⟩ => ⟨x :: xs, H2, I2, .cons r1 r2, q2⟩
inductive isNew (g : List V → HO) (Q : VK) (xs : List V) (H1 : Hp) : Prop
  | mk (z : xs.length ≤ sizeLine) (q : ∀ p, H1 p = none → Q (.ref p) (upd H1 p (g xs))) : isNew g Q xs H1
noncomputable def tTup (t : TA) : TE := fun σ H Q => t σ H (isNew .tup Q)
noncomputable def tLst (t : TA) : TE := fun σ H Q => t σ H (isNew .lst Q)
theorem pe_tup {x1} (h : PA X es t) : PE X (.Tuple es x1 pos) (tTup t) := by
  intro pins s σ H Q I hq
  refine wpAny_Tuple_spliced (thn (h pos pins s σ H _ I hq) fun us s1 ⟨xs, H1, I1, r, z, q⟩ => ⟨by rw [← r.length]; exact z, ?_⟩)
  have hf : H1 s1.heap.objs.size = none := I1.hok.fresh (Nat.le_refl _)
  refine ⟨.ref s1.heap.objs.size, upd H1 s1.heap.objs.size (.tup xs), I1.laid (t' := s1.toks) (fun b u e => Heap.get?_push_of_some _ e) (Nat.le_refl _) ?_, rfl, q _ hf⟩
  exact ⟨z, us, r, ⟨_, Heap.get?_push_size _ rfl, rfl, _, rfl⟩⟩
theorem pe_lst (h : PA X es t) : PE X (.List es pos) (tLst t) := by
  intro pins s σ H Q I hq
  refine wpAny_List_spliced (thn (h pos pins s σ H _ I hq) fun us s1 ⟨xs, H1, I1, r, z, q⟩ => ⟨by rw [← r.length]; exact z, ?_⟩)
  have hf : H1 s1.heap.objs.size = none := I1.hok.fresh (Nat.le_refl _)
  refine ⟨.ref s1.heap.objs.size, upd H1 s1.heap.objs.size (.lst xs), I1.laid (t' := s1.toks) (fun b u e => Heap.get?_push_of_some _ e) (Nat.le_refl _) ?_, rfl, q _ hf⟩
  exact ⟨z, us, 0, r, Heap.get?_push_size _ rfl⟩
end
noncomputable abbrev Sp := List V → Hp → VK → XK → Prop
noncomputable abbrev CXT := List Env → Hp → Shared → XK → Value → Shared → Prop
structure Env0 (P : Program) (w : World) (K : PySem.W.Frag) (mg : Str → Option Value) (base : Heap) (A : Around) (outer : List Env) (s : Shared) (H : Hp) : Prop where
  frames : A.frames = some outer
  mod : Mod K mg base
  bs : ∀ b o, base.get? b = some o → s.heap.get? b = some o ∧ H b = none
  bsz : base.objs.size ≤ s.heap.objs.size
  funs : s.heap.FunFrames base outer
  frf : ∀ b ∈ frs outer, H b = none
  hok : HOk P w H s.heap
  bare : AllBare s.gens
noncomputable def CE (outer : List Env) (P : Program) (w : World) (H : Hp) (s : Shared) (Q : VK) (u : Value) (s' : Shared) : Prop :=
  ∃ v H', s'.os = s.os ∧ AllBare s'.gens ∧ Un (frs outer) [] H H' s.heap s'.heap ∧ HOk P w H' s'.heap ∧ RelV v u ∧ Q v H'
noncomputable def CR (CX : CXT) (outer : List Env) (P : Program) (w : World) (H : Hp) (s : Shared) (Q : VK) (E : XK) (r : Result) (s' : Shared) : Prop :=
  match r with
  | .ok (.ret u) => CE outer P w H s Q u s'
  | .ok _ => False
  | .error e => CX outer H s E e s'
structure FnOk (P : Program) (w : World) (K : PySem.W.Frag) (mg : Str → Option Value) (base : Heap) (CX : CXT) (k : Nat) (f : Addr) (fd : FuncData) (ps : List Str) (sp : Sp) : Prop where
  len : ∀ vs H Q E, sp vs H Q E → vs.length = ps.length
  run : ∀ (A : Around) (outer : List Env) (s : Shared) (H : Hp) (args : Args) (us : List Value) (vs : List V) (Q : VK) (E : XK), Room k A → Env0 P w K mg base A outer s H → BindsTo s fd args (ps.zip us) → Vals vs us → sp vs H Q E →
    codeAny (model P w) A (.call (.ref f) args) (CR CX outer P w H s Q E) s
section
variable {X : Cx} {pins : List (Addr × Obj)} {σ : St} {H : Hp} {s s' : Shared}
theorem Inv.env0 (I : Inv X pins σ H s) : Env0 X.prog X.w X.K X.mg X.base X.A X.stack s H :=
  ⟨I.ok.frames, I.ok.mod, I.bs, Nat.le_trans I.ok.bsz I.sz, I.stack, I.stkFree, I.hok, I.bare⟩
theorem Inv.after {Q : VK} {u : Value} (I : Inv X pins σ H s) (h : CE X.stack X.prog X.w H s Q u s') : EP X pins σ Q u s' := by
  obtain ⟨v, H', os, bare, un, hok, r, q⟩ := h
  obtain ⟨hh, g, d, t, os'⟩ := s'
  obtain rfl : os' = s.os := os
  exact ⟨v, H', I.call (h' := hh) (g' := g) (d' := d) (t' := t) (ch := []) un hok bare (fun b z => absurd z (by simp)), r, q⟩
end
noncomputable def tCall (sp : Sp) (dvs : List V) (E : XK) (t : TA) : TE := fun σ H Q => t σ H fun vs H1 => sp (vs ++ dvs) H1 Q E
noncomputable def Binds (K : PySem.W.Frag) (fd : FuncData) (ps : List Str) (ds : List Value) : Prop :=
  ∀ (s : Shared) (us : List Value), K.In s.heap → (us ++ ds).length = ps.length → BindsTo s fd ⟨us, []⟩ (ps.zip (us ++ ds))
theorem Binds.all {K : PySem.W.Frag} {fd : FuncData} {ps : List Str} (h : ∀ us : List Value, us.length = ps.length → bindArgs fd ⟨us, []⟩ = pure (ps.zip us)) : Binds K fd ps [] := fun s us _ hl => by
  rw [List.append_nil] at hl ⊢
  exact .of_eq (h us hl)
noncomputable def Passes (CX : CXT) (X : Cx) (E : XK) : Prop := ∀ (pins : List (Addr × Obj)) (σ : St) (H : Hp) (s : Shared) (e : Value) (s' : Shared), Inv X pins σ H s → CX X.stack H s E e s' → X.xe e s'
section
variable {X : Cx} {CX : CXT} {k : Nat} {f C : Addr} {fd : FuncData} {ps : List Str} {sp : Sp} {dvs : List V} {ds : List Value} {E : XK} {x m : Str} {p pos apos : Pos} {e o : Expr} {es : List Expr} {ta : TE} {t : TA}
theorem run_fn {pins : List (Addr × Obj)} {σ : St} {H : Hp} {s : Shared} {Q : VK} {us : List Value} {vs : List V} (F : FnOk X.prog X.w X.K X.mg X.base CX k f fd ps sp) (hr : Room k X.A) (hb : Binds X.K fd ps ds) (hd : Vals dvs ds) (hx : Passes CX X E)
    (I : Inv X pins σ H s) (r : Vals vs us) (h : sp (vs ++ dvs) H Q E) : wpAny (model X.prog X.w) X.A (call (.ref f) us) (EP X pins σ Q) X.xe s := by
  have r2 : Vals (vs ++ dvs) (us ++ ds) := r.append hd
  have hl : (us ++ ds).length = ps.length := by rw [← r2.length]; exact F.len _ _ _ _ h
  refine wpAny_call (codeAny_mono (F.run X.A X.stack s H ⟨us, []⟩ (us ++ ds) (vs ++ dvs) Q E hr I.env0 (hb s us I.kIn hl) r2 h) fun r s' hq => ?_)
  cases r with
  | error e => exact hx pins σ H s e s' I hq
  | ok fl =>
    cases fl with
    | ret u => exact I.after hq
    | next => exact False.elim hq
    | brk => exact False.elim hq
    | cont => exact False.elim hq
theorem pe_call (F : FnOk X.prog X.w X.K X.mg X.base CX k f fd ps sp) (hr : Room k X.A) (hg : Gl X x) (hm : X.mg x = some (.ref f)) (hk : PySem.W.keepIn X.K (.ref f) = true) (hb : Binds X.K fd ps ds) (hd : Vals dvs ds) (hx : Passes CX X E)
    (ha : PA X (e :: es) t) (hdb : (x == ("__debug__" : Str)) = false := by decide) (he : starEach (e :: es) X.env = (false, eval e X.env) :: starEach es X.env := by rfl) (hpl : (backTo pos (starEach es X.env)).any (·.1) = false := by rfl) :
    PE X (.Call (.Name x p) (e :: es) [] pos) (tCall sp dvs E t) := by
  intro pins s σ H Q I h
  refine wpAny_Call_Name_kw (ld_glob I hg hm ?_ hdb)
  refine PySem.W.callWith_K (h₀ := X.base) I.ok.mod.kin hk (thn (ha pos pins s σ H _ I h) fun us s1 ⟨vs, H1, I1, r, q⟩ => ⟨I1.kIn, ?_⟩) he hpl
  exact run_fn F hr hb hd hx I1 r q
end
noncomputable def PK (X : Cx) (kws : List Keyword) (t : TA) : Prop :=
  ∀ (pos : Pos) (pins : List (Addr × Obj)) (s : Shared) (σ : St) (H : Hp) (Q : List V → Hp → Prop), Inv X pins σ H s → t σ H Q → wpAny (model X.prog X.w) X.A (evalAll ((backToKw pos (keywordEach kws X.env)).map (·.2))) (AP X pins σ Q) X.xe s
section
variable {X : Cx} {CX : CXT} {k : Nat} {f C : Addr} {fd : FuncData} {ps ks : List Str} {sp : Sp} {E : XK} {x m : Str} {p pos apos kpos : Pos} {e o : Expr} {es : List Expr} {kws : List Keyword} {te ta : TE} {t tk : TA} {nm : Option Str}
theorem pk_nil : PK X [] tNil := fun _ _ _ _ H Q I h => wpAny_evalAll_nil ⟨[], H, I, .nil, h⟩
theorem pk_cons (ha : PE X e te) (hr : PK X kws t) : PK X (⟨nm, e, kpos⟩ :: kws) (tCons te t) := by
  intro pos pins s σ H Q I h
  show wpAny _ _ (evalAll ((do let v ← eval e X.env; standAt pos; pure v) :: (backToKw pos (keywordEach kws X.env)).map (·.2))) _ _ s
  refine wpAny_evalAll_cons (wpAny_bind (thn (ha pins s σ H _ I h) fun u s1 ⟨x, H1, I1, r1, q1⟩ => wpAny_bind (wpAny_standAt (wpAny_pure ?_))))
  exact thn (hr pos pins s1 σ H1 _ I1 q1) fun us s2 ⟨xs, H2, I2, r2, q2⟩ => ⟨x :: xs, H2, I2, .cons r1 r2, q2⟩
variable {g : List Value → List Value → List Value} {gV : List V → List V → List V}
end
structure FnScope (N P : List Str) (sc : Scope) : Prop where
  kind : sc.kind = .function
  co : sc.isCoroutine = false
  gen : sc.isGenerator = false
  nd : N.Nodup
  pre : N.take P.length = P
  par : ∀ x ∈ P, sc.names.lookup x = some .local ∨ sc.names.lookup x = some .cell
  nofree : ∀ y ∈ sc.names, y.2 ≠ .free
theorem bindL_out {kindOf : Str → Option NameKind} {x : Str} : ∀ {binds : List (Str × Value)} {m : Str → Option Value}, (∀ v, (x, v) ∉ binds) → bindL kindOf binds m x = m x
  | [], _, _ => rfl
  | (n, v) :: r, m, h => by
    unfold bindL
    rw [bindL_out fun w hw => h w (List.mem_cons_of_mem _ hw)]
    split
    · have : x ≠ n := by rintro rfl; exact h v List.mem_cons_self
      simp [this]
    · rfl
theorem bindC_out {kindOf : Str → Option NameKind} {x : Str} : ∀ {binds : List (Str × Value)} {m : Str → Option Value}, (∀ v, (x, v) ∉ binds) → bindC kindOf binds m x = m x
  | [], _, _ => rfl
  | (n, v) :: r, m, h => by
    unfold bindC
    rw [bindC_out fun w hw => h w (List.mem_cons_of_mem _ hw)]
    split
    · rfl
    · have : x ≠ n := by rintro rfl; exact h v List.mem_cons_self
      simp [this]
theorem bindL_get {kindOf : Str → Option NameKind} {x : Str} {v : Value} : ∀ {P : List Str} {vs : List Value} {i : Nat} {m : Str → Option Value}, P.Nodup → P[i]? = some x → vs[i]? = some v → kindOf x = some .local →
    bindL kindOf (P.zip vs) m x = some v
  | [], _, _, _, _, h, _, _ => by simp at h
  | _ :: _, [], _, _, _, _, h, _ => by simp at h
  | p :: P, w :: vs, 0, m, nd, h1, h2, hk => by
    simp at h1 h2; subst h1; subst h2
    show bindL kindOf ((p, w) :: P.zip vs) m p = _
    unfold bindL
    rw [bindL_out fun v hv => (List.nodup_cons.mp nd).1 (List.of_mem_zip hv).1, if_pos hk]
    simp
  | p :: P, w :: vs, i + 1, m, nd, h1, h2, hk => by
    show bindL kindOf ((p, w) :: P.zip vs) m x = _
    unfold bindL
    exact bindL_get (i := i) (List.nodup_cons.mp nd).2 (by simpa using h1) (by simpa using h2) hk
theorem bindC_get {kindOf : Str → Option NameKind} {x : Str} {v : Value} : ∀ {P : List Str} {vs : List Value} {i : Nat} {m : Str → Option Value}, P.Nodup → P[i]? = some x → vs[i]? = some v → kindOf x ≠ some .local →
    bindC kindOf (P.zip vs) m x = some v
  | [], _, _, _, _, h, _, _ => by simp at h
  | _ :: _, [], _, _, _, _, h, _ => by simp at h
  | p :: P, w :: vs, 0, m, nd, h1, h2, hk => by
    simp at h1 h2; subst h1; subst h2
    show bindC kindOf ((p, w) :: P.zip vs) m p = _
    unfold bindC
    rw [bindC_out fun v hv => (List.nodup_cons.mp nd).1 (List.of_mem_zip hv).1, if_neg hk]
    simp
  | p :: P, w :: vs, i + 1, m, nd, h1, h2, hk => by
    show bindC kindOf ((p, w) :: P.zip vs) m x = _
    unfold bindC
    exact bindC_get (i := i) (List.nodup_cons.mp nd).2 (by simpa using h1) (by simpa using h2) hk
noncomputable def start (N : List Str) (vs : List V) : St := vs.map some ++ List.replicate (N.length - vs.length) none
noncomputable def cxOf (CX : CXT) (P : Program) (w : World) (K : PySem.W.Frag) (mg : Str → Option Value) (base : Heap) (N : List Str) (qual : Str) (scope : Scope) (f : Addr) (cd : Value) (A : Around) (outer : List Env) (s : Shared) (H : Hp) (E : XK) : Cx where
  prog := P
  w := w
  K := K
  mg := mg
  base := base
  A := A.deeper (envOfC qual scope s.heap.objs.size f cd)
  N := N
  s₀ := s
  H₀ := H
  env := envOfC qual scope s.heap.objs.size f cd
  outer := outer
  stack := envOfC qual scope s.heap.objs.size f cd :: outer
  ex := []
  calm := true
  fn := fun _ => true
  pn := []
  xe := fun e s' => wpAny (model P w) (A.deeper (envOfC qual scope s.heap.objs.size f cd)) (leaving (envOfC qual scope s.heap.objs.size f cd) e) (fun _ s'' => CX outer H s E e s'') (fun e' s'' => CX outer H s E e' s'') s'
theorem cell_has {sc : Scope} {n : Nat} {x : Str} (h : sc.names.lookup x = some .cell) : ∃ c, (cellsFrom n sc.names []).lookup x = some c := by
  have q := PySem.W.cellsFrom_some sc.names n [] (.inl h)
  exact Option.isSome_iff_exists.mp q
theorem inv_start {CX : CXT} {P : Program} {w : World} {K : PySem.W.Frag} {mg : Str → Option Value} {base : Heap} {N ps : List Str} {qual : Str} {scope : Scope} {f : Addr} {cd : Value} {A : Around} {outer : List Env} {s s1 : Shared} {H : Hp} {E : XK} {us : List Value} {vs : List V}
    (S : FnScope N ps scope) (hd : A.handled = none) (e0 : Env0 P w K mg base A outer s H) (hl : vs.length = ps.length) (r : Vals vs us)
    (x : InCallC s s.heap.objs.size (bindL (envOfC qual scope s.heap.objs.size f cd).kindOf (ps.zip us) fun _ => none) (cellsFrom (s.heap.objs.size + 1) scope.names []) (bindC (envOfC qual scope s.heap.objs.size f cd).kindOf (ps.zip us) fun _ => none) s1) :
    Inv (cxOf CX P w K mg base N qual scope f cd A outer s H E) [] (start N vs) H s1 := by
  have hpl : ps.length ≤ N.length := by have := congrArg List.length S.pre; rw [List.length_take] at this; omega
  obtain ⟨h1, tk, rfl, hk⟩ := x.done
  have noA : ∀ b : Addr, b ∉ (cxOf CX P w K mg base N qual scope f cd A outer s H E).ex := fun b z => absurd (show b ∈ ([] : List Addr) from z) (by simp)
  refine ⟨⟨e0.mod, S.kind, rfl, rfl, Nat.le_refl _, fun y z c h1 h2 => ?_, fun y hy => ?_, fun y c _ h => ?_, fun _ => hd, Around.frames_deeper e0.frames, .inr ⟨rfl, rfl⟩, fun b z => absurd z (noA b), e0.bs, e0.bsz, fun b _ _ => noA b, fun b z => absurd z (noA b), e0.funs, e0.frf⟩,
    rfl, e0.bare, Un.kept hk, ⟨_, x.toInCall.ns, fun i y v h1 h2 h3 => ?_⟩, fun y c h => ⟨_, x.cell y c h⟩, e0.hok.fresh (Nat.le_refl _), fun y c h => ?_, fun p hp => absurd (show p ∈ ([] : List (Addr × Obj)) from hp) (by simp), e0.hok.kept hk, ?_⟩
  · exact name_of_addr x.apart (PySem.mem_of_lookup h1) (PySem.mem_of_lookup h2)
  · have hy : scope.names.lookup y = some .cell ∨ scope.names.lookup y = some .free := hy
    rcases hy with hy | hy
    · exact cell_has hy
    · exact absurd rfl (S.nofree _ (PySem.mem_of_lookup hy))
  · exact Nat.le_of_lt (x.above y c (PySem.mem_of_lookup h))
  · have hi : i < vs.length := by
      unfold start at h2
      by_cases hi : i < vs.length
      · exact hi
      · rw [List.getElem?_append_right (by simpa using hi)] at h2
        rw [List.getElem?_replicate] at h2
        split at h2 <;> cases h2
    have ha : vs[i]? = some v := by
      unfold start at h2
      rw [List.getElem?_append_left (by simpa using hi), List.getElem?_map] at h2
      cases e : vs[i]? with
      | none => rw [e] at h2; cases h2
      | some a => rw [e] at h2; cases h2; rfl
    obtain ⟨u, hu, rv⟩ := r.get ha
    have hp : ps[i]? = some y := by
      rw [← S.pre, List.getElem?_take_of_lt (by omega)]; exact h1
    have ndP : ps.Nodup := by rw [← S.pre]; exact S.nd.sublist (List.take_sublist _ _)
    refine ⟨u, rv, ?_⟩
    rcases S.par y (List.mem_of_getElem? hp) with k | k
    · exact .inl ⟨k, bindL_get ndP hp hu k⟩
    · obtain ⟨c, e⟩ := cell_has (n := s.heap.objs.size + 1) k
      refine .inr ⟨.inl k, c, e, ?_⟩
      have q := x.cell y c e
      rw [bindC_get ndP hp hu (by show scope.names.lookup y ≠ _; rw [k]; decide)] at q
      exact q
  · exact e0.hok.fresh (Nat.le_of_lt (x.above y c (PySem.mem_of_lookup h)))
  · unfold start
    show _ = N.length
    rw [List.length_append, List.length_map, List.length_replicate]
    omega
theorem fn_of {CX : CXT} {P : Program} {w : World} {K : PySem.W.Frag} {mg : Str → Option Value} {base : Heap} {k : Nat} {f : Addr} {name qual : Str} {params : Arguments} {body : List Stmt} {scope : Scope} {dV kV doc pm cdv ct oc : Value} {an od : Option Addr}
    {osl : Array (Option Value)} {N ps : List Str} {sp : Sp} (lk : K.lookup f = some ⟨oc, od, .func (PySem.W.fnOf name qual params body scope dV kV doc pm an cdv ct), osl⟩) (hcd : PySem.W.codeIn K cdv qual = true) (S : FnScope N ps scope)
    (len : ∀ vs H Q E, sp vs H Q E → vs.length = ps.length)
    (hbody : ∀ (A : Around) (outer : List Env) (s : Shared) (H : Hp) (vs : List V) (Q : VK) (E : XK), Room k (A.deeper (envOfC qual scope s.heap.objs.size f cdv)) → sp vs H Q E →
      ∃ t, PSs (cxOf CX P w K mg base N qual scope f cdv A outer s H E) body t ∧ t { nx := fun _ H' => Q .non H', rt := Q } (start N vs) H) :
    FnOk P w K mg base CX (k + 1) f (PySem.W.fnOf name qual params body scope dV kV doc pm an cdv ct) ps sp := by
  refine ⟨len, fun A outer s H args us vs Q E hr e0 hb r hsp => ?_⟩
  have hl := len _ _ _ _ hsp
  have KX : K.In s.heap := e0.mod.kin.keeps fun b o e => (e0.bs b o e).1
  have lim : s.heap.NoLimit := e0.mod.nolimit.keeps fun b o e => (e0.bs b o e).1
  have hkind : ∀ y ∈ ps.zip us, scope.names.lookup y.1 = some .local ∨ (scope.names.lookup y.1 = some .cell ∧ ((cellsFrom (s.heap.objs.size + 1) scope.names []).lookup y.1).isSome = true) := fun ⟨n, v⟩ hy => by
    rcases S.par n (List.of_mem_zip hy).1 with q | q
    · exact .inl q
    · exact .inr ⟨q, PySem.W.cellsFrom_some _ _ _ (.inl q)⟩
  refine codeAny_call_function hr.depth (KX _ _ lk) rfl S.co S.gen rfl (PySem.W.codeRec_of KX hcd) (hb _ _ _ _ ?_)
  refine wpAny_newFunctionEnv_cells S.kind hkind fun env he s1 x => ?_
  subst he
  refine ⟨lim.keeps x.toInCall.keep, codeAny_func ?_⟩
  obtain ⟨t, ht, hq⟩ := hbody A outer s H vs Q E (hr.deeper _) hsp
  have I : Inv (cxOf CX P w K mg base N qual scope f cdv A outer s H E) [] (start N vs) H s1 := inv_start S hr.hd e0 hl r x
  refine wpAny_mono (ht [] s1 (start N vs) H _ I hq) (fun fl s' hs => ?_) fun e s' hs => hs
  have fin : ∀ {σ' : St} {H' : Hp} {v : V} {u : Value}, Inv (cxOf CX P w K mg base N qual scope f cdv A outer s H E) [] σ' H' s' → RelV v u → Q v H' → CE outer P w H s Q u s' :=
    fun {σ' H' v u} J rv q => ⟨v, H', J.os, J.bare, J.base, J.hok, rv, q⟩
  cases fl with
  | ret u =>
    obtain ⟨v, σ', H', J, rv, q⟩ := hs
    exact fin J rv q
  | next =>
    obtain ⟨σ', H', J, q⟩ := hs
    exact fin (v := V.non) (u := Value.none) J rfl q
  | brk =>
    obtain ⟨_, _, _, q⟩ := hs
    exact False.elim q
  | cont =>
    obtain ⟨_, _, _, q⟩ := hs
    exact False.elim q
end L2
namespace L2
open PySem PySem.Spec PyProof.Rows
section
variable {X : Cx} {x : Str} {p pos : Pos} {e : Expr} {es : List Expr} {t : TA} {id T : String} {r : List V → Hp → VK → Prop}
noncomputable def tCB (r : List V → Hp → VK → Prop) (t : TA) : TE := fun σ H Q => t σ H fun vs H1 => r vs H1 Q
theorem pe_callB (hc : CallR X (.builtin id) r) (hg : Gl X x) (hm : X.mg x = none) (hv : bootBuiltins x = some (.builtin id)) (ha : PA X (e :: es) t) (hn : x ≠ "__name__" := by decide) (hdb : (x == ("__debug__" : Str)) = false := by decide)
    (he : starEach (e :: es) X.env = (false, eval e X.env) :: starEach es X.env := by rfl) (hpl : (backTo pos (starEach es X.env)).any (·.1) = false := by rfl) : PE X (.Call (.Name x p) (e :: es) [] pos) (tCB r t) := by
  intro pins s σ H Q I h
  refine wpAny_Call_Name_kw (ld_blt I hg hm hv ?_ hn hdb)
  exact PyProof.Rows.callWith_builtin1 (thn (ha pos pins s σ H _ I h) fun us s1 ⟨vs, H1, I1, r1, q1⟩ => hc pins s1 σ H1 vs us Q I1 r1 q1) he hpl
theorem pe_callTy (hc : CallR X (.type T) r) (hg : Gl X x) (hm : X.mg x = none) (hv : bootBuiltins x = some (.type T)) (ha : PA X (e :: es) t) (hn : x ≠ "__name__" := by decide) (hdb : (x == ("__debug__" : Str)) = false := by decide)
    (he : starEach (e :: es) X.env = (false, eval e X.env) :: starEach es X.env := by rfl) (hpl : (backTo pos (starEach es X.env)).any (·.1) = false := by rfl) : PE X (.Call (.Name x p) (e :: es) [] pos) (tCB r t) := by
  intro pins s σ H Q I h
  refine wpAny_Call_Name_kw (ld_blt I hg hm hv ?_ hn hdb)
  exact PyProof.Rows.callWith_type1 (thn (ha pos pins s σ H _ I h) fun us s1 ⟨vs, H1, I1, r1, q1⟩ => hc pins s1 σ H1 vs us Q I1 r1 q1) he hpl
end
end L2
namespace HT
open PySem PyProof.Rows
section
open PySem.SeqAt
open PySem.AutoSeq1 (wpAny_loadPart')
open PySem.MeetsSeq PySem.MeetsSeq2 PySem.MeetsSeq3
end
section
variable {prog : Program} {w : World} {A : Around} {E : Value → Shared → Prop} {s : Shared}
theorem cat_tup {t b : Addr} {vs ws : List Value} {Q : Value → Shared → Prop} (ht : IsTup s.heap t vs.toArray) (hb : IsTup s.heap b ws.toArray) (hv : vs ≠ [])
    (h1 : ws = [] → Q (.ref t) s) (h2 : ws ≠ [] → Q (.ref s.heap.objs.size) { s with heap := s.heap.push { cls := .type "tuple", data := .seq (vs ++ ws).toArray } })
    (hsz : vs.length + ws.length ≤ sizeLine) : wpAny (model prog w) A (binaryOp .Add (.ref t) (.ref b)) Q E s := by
  obtain ⟨⟨cls, dd, data, sl⟩, ho, hc, n, hd⟩ := id ht
  obtain ⟨⟨cls2, dd2, data2, sl2⟩, ho2, hc2, n2, hd2⟩ := id hb
  simp only at hc hd hc2 hd2
  subst hc hd hc2 hd2
  have e : vs.toArray ++ ws.toArray = (vs ++ ws).toArray := by simp
  by_cases hw : ws = []
  · exact concat_meets ⟨_, ho, rfl⟩ ⟨_, ho2, rfl⟩ noFill_tuple_add seq_tuple_add PySem.F.slot_tuple_add PySem.F.entry_tuple_add (PySem.F.args_tuple_add_2 _ _)
      (tuple_addW1 t b vs.toArray ws.toArray n n2 dd dd2 sl sl2 (by simpa using hv) (by simp [hw])) ⟨ho, ho2, h1 hw⟩
  · refine concat_meets ⟨_, ho, rfl⟩ ⟨_, ho2, rfl⟩ noFill_tuple_add seq_tuple_add PySem.F.slot_tuple_add PySem.F.entry_tuple_add (PySem.F.args_tuple_add_2 _ _)
      (tuple_addW2 t b vs.toArray ws.toArray n n2 dd dd2 sl sl2 (by simpa using hv) (by simpa using hw) (by rw [List.size_toArray, List.size_toArray]; exact hsz)) ⟨ho, ho2, ?_⟩
    rw [e]
    exact h2 hw
noncomputable def sIx (n d : Nat) : Option Int → Nat
  | none => d
  | some v => if v < 0 then (v + (n : Int)).toNat else min v.toNat n
theorem sIx_none (n d : Nat) : sIx n d none = d := rfl
theorem sIx_nat (n d k : Nat) : sIx n d (some (k : Int)) = min k n := by
  show (if (k : Int) < 0 then ((k : Int) + (n : Int)).toNat else min (k : Int).toNat n) = min k n
  rw [if_neg (by omega), Int.toNat_natCast]
end
end HT
namespace L2
open PySem PySem.Spec PyProof.Rows
noncomputable abbrev TO := St → Hp → (Option Int → Hp → Prop) → Prop
noncomputable def PO (X : Cx) (e : Option Expr) (t : TO) : Prop :=
  ∀ (pins : List (Addr × Obj)) (s : Shared) (σ : St) (H : Hp) (Q : Option Int → Hp → Prop), Inv X pins σ H s → t σ H Q →
    wpAny (model X.prog X.w) X.A (evalPart e X.env) (fun u s' => ∃ o H', Inv X pins σ H' s' ∧ IsPart u o ∧ Q o H') X.xe s
noncomputable def tNoPart : TO := fun _ H Q => Q none H
inductive isPart (Q : Option Int → Hp → Prop) (x : V) (H1 : Hp) : Prop
  | mk (i : Int) (e : x = .int i) (q : Q (some i) H1) : isPart Q x H1
noncomputable def tPart (t : TE) : TO := fun σ H Q => t σ H (isPart Q)
theorem intsAre_of {ns : List Int} : ∀ {us : List Value}, Vals (ns.map V.int) us → IntsAre us ns := by
  induction ns with
  | nil => intro us r; rw [List.map_nil] at r; cases r; exact .nil
  | cons n ns ih =>
    intro us r
    rw [List.map_cons] at r
    cases r with
    | cons r1 r2 =>
      obtain ⟨t, e⟩ := r1
      subst e
      exact .cons n t (ih r2)
section
variable {X : Cx} {e : Expr} {te : TE} {lo hi : Option Expr} {tl th : TO} {pos p2 : Pos}
theorem po_none : PO X none tNoPart := by
  intro pins s σ H Q I h
  rw [evalPart_none]
  exact wpAny_pure ⟨none, H, I, .none, h⟩
theorem po_some (h : PE X e te) : PO X (some e) (tPart te) := by
  intro pins s σ H Q I hw
  rw [evalPart_some]
  refine thn (h pins s σ H _ I hw) fun u s1 ⟨x, H1, I1, r1, q1⟩ => ?_
  obtain ⟨i, rfl, q⟩ := q1
  obtain ⟨t, rfl⟩ := r1
  exact ⟨some i, H1, I1, .int i t, q⟩
noncomputable def SlR (X : Cx) (r : V → Option Int → Option Int → Hp → VK → Prop) : Prop :=
  ∀ (pins : List (Addr × Obj)) (s : Shared) (σ : St) (H : Hp) (x : V) (v vl vu : Value) (lo hi : Option Int) (sl : Addr) (Q : VK), Inv X pins σ H s → RelV x v → s.heap.IsSliceOf sl vl vu .none → IsPart vl lo → IsPart vu hi → r x lo hi H Q →
    ∃ T id, typeLookup (.type T) "__getitem__" = pure (some (.builtin id)) ∧ s.TypeIs v T ∧ wpAny (model X.prog X.w) X.A (getItem v (.ref sl)) (EP X pins σ Q) X.xe s
noncomputable def tSl (r : V → Option Int → Option Int → Hp → VK → Prop) (te : TE) (tl th : TO) : TE := fun σ H Q => te σ H fun x H1 => tl σ H1 fun l H2 => th σ H2 fun u H3 => r x l u H3 Q
theorem pe_slice {r : V → Option Int → Option Int → Hp → VK → Prop} (hr : SlR X r) (he : PE X e te) (hl : PO X lo tl) (hu : PO X hi th) : PE X (.Subscript e (.Slice lo hi none p2) pos) (tSl r te tl th) := by
  intro pins s σ H Q I h
  refine Subscript_ (thn (he pins s σ H _ I h) fun v s1 ⟨x, H1, I1, r1, q1⟩ => ?_)
  refine wpAny_Slice (thn (hl pins s1 σ H1 _ I1 q1) fun vl s2 ⟨l, H2, I2, pl, q2⟩ => thn (hu pins s2 σ H2 _ I2 q2) fun vu s3 ⟨u, H3, I3, pu, q3⟩ => ?_)
  rw [evalPart_none]
  refine wpAny_pure ?_
  have I4 : Inv X pins σ H3 { s3 with heap := s3.heap.push { cls := .type "slice", data := .fields #[vl, vu, .none] } } := I3.kept (t' := s3.toks) fun b ob q => Heap.get?_push_of_some _ q
  obtain ⟨T, id, hT, ht, hg⟩ := hr pins { s3 with heap := s3.heap.push { cls := .type "slice", data := .fields #[vl, vu, .none] } } σ H3 x v vl vu l u s3.heap.objs.size Q I4 r1 (Heap.IsSliceOf.new ..) pl pu q3
  show wpAny (model X.prog X.w) X.A (subscriptTail e (.Slice lo hi none p2) v (.ref s3.heap.objs.size)) (EP X pins σ Q) X.xe { s3 with heap := s3.heap.push { cls := .type "slice", data := .fields #[vl, vu, .none] } }
  exact tail_any (ops := [.ref s3.heap.objs.size, v]) ht hT hg (by with_unfolding_all rfl)
noncomputable def cutV (xs : List V) (lo hi : Option Int) : List V := (xs.drop (HT.sIx xs.length 0 lo)).take (HT.sIx xs.length xs.length hi - HT.sIx xs.length 0 lo)
theorem cutV_length (xs : List V) (lo hi : Option Int) : (cutV xs lo hi).length ≤ xs.length := by
  unfold cutV
  rw [List.length_take, List.length_drop]
  omega
inductive rCatT (K : PySem.W.Frag) (x y : V) (H : Hp) (Q : VK) : Prop
  | mk (a b : Addr) (xs ys : List V) (ex : x = .ref a) (ey : y = .ref b) (s : SqT K H a xs) (s' : SqT K H b ys) (n : xs ≠ []) (z : xs.length + ys.length ≤ sizeLine) (q0 : ys = [] → Q (.ref a) H) (q : ys ≠ [] → ∀ p, H p = none → Q (.ref p) (upd H p (.tup (xs ++ ys)))) : rCatT K x y H Q
theorem Vals.nil_iff {xs : List V} {us : List Value} (r : Vals xs us) : us = [] ↔ xs = [] := by
  cases r with
  | nil => simp
  | cons _ _ => simp
theorem op_catT : OpR X (binaryOp .Add) (rCatT X.K) := by
  intro pins s σ H x y v u Q I rx ry h
  obtain ⟨a, b, xs, ys, rfl, rfl, ha, hb, hx, hz, q1, q2⟩ := h
  cases rx
  cases ry
  obtain ⟨its, r1, p1, _⟩ := I.tuple ha
  obtain ⟨its2, r2, p2, _⟩ := I.tuple hb
  refine HT.cat_tup p1 p2 (fun z => hx (r1.nil_iff.mp z)) (fun z => ⟨.ref a, H, I, rfl, q1 (r2.nil_iff.mp z)⟩) (fun z => ?_) (by rw [← r1.length, ← r2.length]; exact hz)
  refine ⟨.ref s.heap.objs.size, _, I.laid (t' := s.toks) (o := .tup (xs ++ ys)) (fun b ob q => Heap.get?_push_of_some _ q) (Nat.le_refl _) ?_, rfl, q2 (fun w => z (r2.nil_iff.mpr w)) _ (I.hok.fresh (Nat.le_refl _))⟩
  exact ⟨by rw [List.length_append]; exact hz, _, r1.append r2, IsTup.new _ _⟩
end
end L2
namespace L2
open PySem PySem.Spec PyProof.Rows
noncomputable def ixN (n : Nat) (i : Int) : Option Nat := if 0 ≤ i then (if i < n then some i.toNat else none) else if -(n : Int) ≤ i then some (i + n).toNat else none
noncomputable def atI {α : Type} (xs : List α) (i : Int) : Option α := (ixN xs.length i).bind fun j => xs[j]?
theorem ixN_seq {n : Nat} {i : Int} {j : Nat} (h : ixN n i = some j) : seqIndex? i n = some j ∧ j < n ∧ -(n : Int) ≤ i ∧ i < n := by
  unfold ixN at h
  by_cases h0 : 0 ≤ i
  · rw [if_pos h0] at h
    by_cases h1 : i < n
    · rw [if_pos h1] at h
      have e : i.toNat = j := Option.some.inj h
      exact ⟨by rw [seqIndex_of h0 h1, e], by omega, by omega, h1⟩
    · rw [if_neg h1] at h; cases h
  · rw [if_neg h0] at h
    by_cases h1 : -(n : Int) ≤ i
    · rw [if_pos h1] at h
      have e : (i + n).toNat = j := Option.some.inj h
      exact ⟨by rw [seqIndex_neg (by omega) h1, e], by omega, h1, by omega⟩
    · rw [if_neg h1] at h; cases h
theorem atI_get {α : Type} {xs : List α} {i : Int} {v : α} (h : atI xs i = some v) : ∃ j, seqIndex? i xs.length = some j ∧ xs[j]? = some v ∧ j < xs.length ∧ -(xs.length : Int) ≤ i ∧ i < xs.length := by
  unfold atI at h
  cases e : ixN xs.length i with
  | none => rw [e] at h; cases h
  | some j =>
    rw [e] at h
    obtain ⟨h1, h2, h3, h4⟩ := ixN_seq e
    exact ⟨j, h1, h, h2, h3, h4⟩
theorem atI_nat {α : Type} {xs : List α} {j : Nat} {v : α} (h : xs[j]? = some v) : atI xs (j : Int) = some v := by
  have hj : j < xs.length := (List.getElem?_eq_some_iff.mp h).1
  have e : ixN xs.length (j : Int) = some j := by
    unfold ixN
    rw [if_pos (by omega), if_pos (by omega)]; simp
  unfold atI; rw [e]; exact h
noncomputable def PlainIx (b : Expr) : Prop := ∀ o i, subscripted b false o i = operate [o, i] (getItem o i)
noncomputable def IxR (X : Cx) (r : R2) : Prop :=
  ∀ (value slice : Expr) (pins : List (Addr × Obj)) (s : Shared) (σ : St) (H : Hp) (x y : V) (v u : Value) (Q : VK), Inv X pins σ H s → RelV x v → RelV y u → r x y H Q →
    subscripted slice false v u = operate [v, u] (getItem v u) → wpAny (model X.prog X.w) X.A (subscriptTail value slice v u) (EP X pins σ Q) X.xe s
noncomputable def MtR (X : Cx) (id : String) (r : V → List V → Hp → VK → Prop) : Prop :=
  ∀ (pins : List (Addr × Obj)) (s : Shared) (σ : St) (H : Hp) (x : V) (xs : List V) (v : Value) (us : List Value) (Q : VK), Inv X pins σ H s → RelV x v → Vals xs us → r x xs H Q →
    wpAny (model X.prog X.w) X.A (call (.builtin id) (v :: us)) (EP X pins σ Q) X.xe s
section
variable {X : Cx} {a b : Expr} {ta tb : TE} {pos : Pos}
theorem pe_ix {r : R2} (hr : IxR X r) (ha : PE X a ta) (hb : PE X b tb) (hs : PlainIx b) : PE X (.Subscript a b pos) (tOp r ta tb) := by
  intro pins s σ H Q I h
  exact Subscript_ (binT ha hb I h fun v u s2 x y H2 I2 rx ry q => hr a b pins s2 σ H2 x y v u Q I2 rx ry q (hs _ _))
inductive rIxL (K : PySem.W.Frag) (x y : V) (H : Hp) (Q : VK) : Prop
  | mk (p : Addr) (xs : List V) (i : Int) (v : V) (ex : x = .ref p) (ey : y = .int i) (s : SqL K H p xs) (a : atI xs i = some v) (q : Q v H) : rIxL K x y H Q
inductive rIxT (K : PySem.W.Frag) (x y : V) (H : Hp) (Q : VK) : Prop
  | mk (p : Addr) (xs : List V) (i : Int) (v : V) (ex : x = .ref p) (ey : y = .int i) (s : SqT K H p xs) (a : atI xs i = some v) (q : Q v H) : rIxT K x y H Q
theorem ix_list : IxR X (rIxL X.K) := by
  intro value slice pins s σ H x y v u Q I rx ry h hs
  obtain ⟨p, xs, i, z, rfl, rfl, hq, he, q⟩ := h
  cases rx
  obtain ⟨t, rfl⟩ := ry
  obtain ⟨its, r, pl, hz⟩ := I.list hq
  obtain ⟨j, h1, h2, h3, h4, h5⟩ := atI_get he
  obtain ⟨w, ew, rw'⟩ := r.get h2
  have hl := r.length
  have hn := line63
  have fin : EP X pins σ Q w s := ⟨z, H, I, rw', q⟩
  by_cases h0 : 0 ≤ i
  · have hj : i.toNat = j := by
      rw [seqIndex_of h0 h5] at h1
      exact Option.some.inj h1
    exact item_listR pl.isList h0 (by omega) (by rw [hj]; simpa using ew) fin hs
  · have hj : (i + (its.toArray.size : Int)).toNat = j := by
      rw [seqIndex_neg (by omega) h4] at h1
      rw [List.size_toArray, ← hl]
      exact Option.some.inj h1
    exact subscriptTail_builtinR (x := w) pl.isList.typeIs slot_list_getitem.lookup
      (wpAny_getItem_list_neg (Q := fun r s' => r = w ∧ EP X pins σ Q r s') pl.isList (by omega) (by rw [List.size_toArray] <;> omega) (by omega) (by rw [hj]; simpa using ew) ⟨rfl, fin⟩) hs
theorem ix_tup : IxR X (rIxT X.K) := by
  intro value slice pins s σ H x y v u Q I rx ry h hs
  obtain ⟨p, xs, i, z, rfl, rfl, hq, he, q⟩ := h
  cases rx
  obtain ⟨t, rfl⟩ := ry
  obtain ⟨its, r, pl, hz⟩ := I.tuple hq
  obtain ⟨j, h1, h2, h3, h4, h5⟩ := atI_get he
  obtain ⟨w, ew, rw'⟩ := r.get h2
  have hl := r.length
  have hn := line63
  have fin : EP X pins σ Q w s := ⟨z, H, I, rw', q⟩
  exact subscriptTail_builtinR (x := w) pl.typeIs slot_tuple_getitem.lookup
    (getItem_tuple (j := j) (Q := fun r s' => r = w ∧ EP X pins σ Q r s') pl (by omega) (by omega) (by rw [List.size_toArray, ← hl]; exact h1) (by simpa using ew) ⟨rfl, fin⟩) hs
theorem mapSeq_set (its : List Value) (n j : Nat) (u : Value) : Obj.mapSeq (·.setIfInBounds j u) { cls := .type "list", data := .seq its.toArray n } = { cls := .type "list", data := .seq (its.set j u).toArray n } := by
  simp [Obj.mapSeq]
theorem Inv.lst {pins : List (Addr × Obj)} {σ : St} {H : Hp} {s : Shared} {p : Addr} {xs : List V} (I : Inv X pins σ H s) (h : H p = some (.lst xs)) :
    ∃ (its : List Value) (n : Nat), Vals xs its ∧ s.heap.get? p = some { cls := .type "list", data := .seq its.toArray n } ∧ xs.length ≤ sizeLine := by
  obtain ⟨z, its, n, r, e⟩ := I.hok p _ h
  exact ⟨its, n, r, e, z⟩
theorem Inv.lstUpd {pins : List (Addr × Obj)} {σ : St} {H : Hp} {s : Shared} {p : Addr} {xs ys : List V} {its its' : List Value} {n n' : Nat} {f : Obj → Obj} (I : Inv X pins σ H s) (h : H p = some (.lst xs))
    (ho : s.heap.get? p = some { cls := .type "list", data := .seq its.toArray n }) (hf : f { cls := .type "list", data := .seq its.toArray n } = { cls := .type "list", data := .seq its'.toArray n' }) (r : Vals ys its') (hz : ys.length ≤ sizeLine) (t : Nat) :
    Inv X pins σ (upd H p (.lst ys)) { s with heap := s.heap.update p f, toks := t } := by
  have e : (s.heap.update p f).get? p = some { cls := .type "list", data := .seq its'.toArray n' } := by
    rw [Heap.get?_update_self f ho (by rw [hf] <;> rfl), hf]
  refine I.write (x := p) (e := p) (by rw [h]; trivial) (.inl rfl) (fun b u hb q => (Heap.get?_update_other _ _ (Ne.symm hb)).trans q) ⟨_, e⟩ ?_
  exact ⟨hz, its', n', r, e⟩
noncomputable def rSetL : V → V → V → Hp → (Hp → Prop) → Prop := fun o i v H Q => ∃ p xs k j, o = .ref p ∧ i = .int k ∧ H p = some (.lst xs) ∧ ixN xs.length k = some j ∧ Q (upd H p (.lst (xs.set j v)))
theorem set_list : PSet X rSetL := by
  intro pins s σ H o i v ov iv u Q I ro ri rv h
  obtain ⟨p, xs, k, j, rfl, rfl, hp, hj, q⟩ := h
  cases ro
  obtain ⟨t, rfl⟩ := ri
  obtain ⟨its, n, r, ho, hz⟩ := I.lst hp
  obtain ⟨h1, h2, h3, h4⟩ := ixN_seq hj
  have hl := r.length
  have hn := line63
  have I' : Inv X pins σ (upd H p (.lst (xs.set j v))) { s with heap := s.heap.update p (Obj.mapSeq (·.setIfInBounds j u)) } :=
    I.lstUpd hp ho (mapSeq_set its n j u) (r.set rv j) (by rw [List.length_set]; exact hz) s.toks
  by_cases h0 : 0 ≤ k
  · have hk : k.toNat = j := by
      rw [seqIndex_of h0 h4] at h1
      exact Option.some.inj h1
    exact PySem.W.ki_setAt ho h0 (by omega) (by rw [List.size_toArray, ← hl]; exact h4) (by rw [hk]; exact ⟨_, I', q⟩)
  · have hk : (k + (its.toArray.size : Int)).toNat = j := by
      rw [seqIndex_neg (by omega) h3] at h1
      rw [List.size_toArray, ← hl]
      exact Option.some.inj h1
    exact PySem.W.ki_setBack ho (by omega) (by rw [List.size_toArray, ← hl]; exact h3) (by omega) (by rw [hk]; exact ⟨_, I', q⟩)
theorem slice_bounds (lo hi : Option Int) (n : Nat) : (sliceBounds lo hi none n).1 = ((HT.sIx n 0 lo : Nat) : Int) ∧ (sliceBounds lo hi none n).2.1 = ((HT.sIx n n hi : Nat) : Int) ∧ (sliceBounds lo hi none n).2.2 = 1 := by
  refine ⟨?_, ?_, rfl⟩
  · cases lo with
    | none => simp [sliceBounds, HT.sIx]
    | some i =>
      simp only [sliceBounds, HT.sIx, Option.getD_none, show (1 : Int) > 0 by decide, if_true]
      by_cases h : i < 0
      · simp only [h, if_true] <;> omega
      · simp only [h, if_false] <;> omega
  · cases hi with
    | none => simp [sliceBounds, HT.sIx]
    | some i =>
      simp only [sliceBounds, HT.sIx, Option.getD_none, show (1 : Int) > 0 by decide, if_true]
      by_cases h : i < 0
      · simp only [h, if_true] <;> omega
      · simp only [h, if_false] <;> omega
theorem slicePick_cut (its : List Value) (lo hi : Option Int) : slicePick its.toArray lo hi none = ((its.drop (HT.sIx its.length 0 lo)).take (HT.sIx its.length its.length hi - HT.sIx its.length 0 lo)).toArray := by
  obtain ⟨h1, h2, h3⟩ := slice_bounds lo hi its.toArray.size
  unfold slicePick
  rw [h1, h2, h3]
  simp only [sliceRange_one, pick_run, List.size_toArray] <;> rfl
inductive rSlL (K : PySem.W.Frag) (x : V) (lo hi : Option Int) (H : Hp) (Q : VK) : Prop
  | mk (a : Addr) (xs : List V) (ex : x = .ref a) (s : SqL K H a xs) (q : ∀ p, H p = none → Q (.ref p) (upd H p (.lst (cutV xs lo hi)))) : rSlL K x lo hi H Q
theorem sl_list : SlR X (rSlL X.K) := by
  intro pins s σ H x v vl vu lo hi sl Q I rx hs pl pu h
  obtain ⟨a, xs, rfl, hx, q⟩ := h
  cases rx
  obtain ⟨its, r, ht, hz⟩ := I.list hx
  have hlen := r.length
  refine ⟨"list", _, slot_list_getitem.lookup, ht.isList.typeIs, ?_⟩
  refine wpAny_getItem_list_slice ht.isList hs pl pu .none (by simp) ?_ (by rw [List.size_toArray] <;> omega)
  rw [slicePick_cut, ← hlen]
  refine ⟨.ref s.heap.objs.size, _, I.laid (t' := s.toks) (o := .lst (cutV xs lo hi)) (fun b ob q => Heap.get?_push_of_some _ q) (Nat.le_refl _) ?_, rfl, q _ (I.hok.fresh (Nat.le_refl _))⟩
  exact ⟨Nat.le_trans (cutV_length xs lo hi) hz, _, 0, (r.drop (HT.sIx xs.length 0 lo)).take (HT.sIx xs.length xs.length hi - HT.sIx xs.length 0 lo), Heap.get?_push_size _ rfl⟩
noncomputable def flatV : V → Bool
  | .non => true
  | .bl _ => true
  | .int _ => true
  | .str _ => true
  | _ => false
noncomputable def eqV : V → V → Bool
  | .non, .non => true
  | .bl a, .bl b => a == b
  | .bl a, .int b => (if a then 1 else 0) == b
  | .int a, .bl b => a == (if b then 1 else 0)
  | .int a, .int b => a == b
  | .str a, .str b => a == b
  | _, _ => false
theorem eqAt_V {A : Around} {s : Shared} {y x : V} {u v : Value} (ry : RelV y u) (rx : RelV x v) (fy : flatV y = true) (fx : flatV x = true) : SeqAt.EqAt A s u v (eqV y x) := by
  cases y with
  | non =>
    cases ry
    cases x with
    | non => cases rx; exact SeqAt.EqAt.same _
    | bl b => cases rx; exact SeqAt.EqAt.none_bool b
    | int b => obtain ⟨t, rfl⟩ := rx; exact SeqAt.EqAt.none_int b t
    | str b => obtain ⟨t, rfl⟩ := rx; exact SeqAt.EqAt.none_str b t
    | _ => exact absurd (show false = true from fx) Bool.false_ne_true
  | bl a =>
    cases ry
    cases x with
    | non => cases rx; exact SeqAt.EqAt.bool_none a
    | bl b => cases rx; exact SeqAt.EqAt.bool_bool a b
    | int b => obtain ⟨t, rfl⟩ := rx; exact SeqAt.EqAt.bool_int a b t
    | str b => obtain ⟨t, rfl⟩ := rx; exact SeqAt.EqAt.bool_str a b t
    | _ => exact absurd (show false = true from fx) Bool.false_ne_true
  | int a =>
    obtain ⟨t', rfl⟩ := ry
    cases x with
    | non => cases rx; exact SeqAt.EqAt.int_none a t'
    | bl b => cases rx; exact SeqAt.EqAt.int_bool a t' b
    | int b => obtain ⟨t, rfl⟩ := rx; exact SeqAt.EqAt.int_int a t' b t
    | str b => obtain ⟨t, rfl⟩ := rx; exact SeqAt.EqAt.int_str a t' b t
    | _ => exact absurd (show false = true from fx) Bool.false_ne_true
  | str a =>
    obtain ⟨t', rfl⟩ := ry
    cases x with
    | non => cases rx; exact SeqAt.EqAt.str_none a t'
    | bl b => cases rx; exact SeqAt.EqAt.str_bool a t' b
    | int b => obtain ⟨t, rfl⟩ := rx; exact SeqAt.EqAt.str_int a t' b t
    | str b => obtain ⟨t, rfl⟩ := rx; exact SeqAt.EqAt.str_str a t' b t
    | _ => exact absurd (show false = true from fx) Bool.false_ne_true
  | _ => exact absurd (show false = true from fy) Bool.false_ne_true
noncomputable def eqU (x : V) (u : Value) : Bool := match u with
  | .none => eqV .non x
  | .bool b => eqV (.bl b) x
  | .int i _ => eqV (.int i) x
  | .str z _ => eqV (.str z) x
  | _ => false
theorem eqU_of {x y : V} {u : Value} (r : RelV y u) (f : flatV y = true) : eqU x u = eqV y x := by
  cases y with
  | non => cases r; rfl
  | bl b => cases r; rfl
  | int i => obtain ⟨t, rfl⟩ := r; rfl
  | str z => obtain ⟨t, rfl⟩ := r; rfl
  | _ => exact absurd (show false = true from f) Bool.false_ne_true
theorem any_eqU {x : V} : ∀ {xs : List V} {us : List Value}, Vals xs us → xs.all flatV = true → us.any (eqU x) = xs.any fun y => eqV y x
  | _, _, .nil, _ => rfl
  | y :: xs, u :: us, .cons r t, f => by
    rw [List.all_cons, Bool.and_eq_true] at f
    rw [List.any_cons, List.any_cons, eqU_of r f.1, any_eqU t f.2]
theorem mem_eqAt {A : Around} {s : Shared} {x : V} {v : Value} (rx : RelV x v) (fx : flatV x = true) : ∀ {xs : List V} {us : List Value}, Vals xs us → xs.all flatV = true → ∀ u ∈ us, SeqAt.EqAt A s u v (eqU x u)
  | _, _, .nil, _ => fun u hu => by cases hu
  | y :: xs, u :: us, .cons r t, f => fun u' hu => by
    rw [List.all_cons, Bool.and_eq_true] at f
    rcases List.mem_cons.mp hu with rfl | hu
    · rw [eqU_of r f.1]; exact eqAt_V r rx f.1 fx
    · exact mem_eqAt rx fx t f.2 u' hu
noncomputable def inV (x : V) (xs : List V) : Bool := xs.any fun y => eqV y x
inductive rIn (K : PySem.W.Frag) (neg : Bool) (x y : V) (H : Hp) (Q : VK) : Prop
  | mk (p : Addr) (xs : List V) (ey : y = .ref p) (s : SqL K H p xs ∨ SqT K H p xs) (f : flatV x = true) (fs : xs.all flatV = true) (q : Q (.bl (if neg then !inV x xs else inV x xs)) H) : rIn K neg x y H Q
theorem op_in_seq : OpR X (compareOp .In) (rIn X.K false) := by
  intro pins s σ H x y v u Q I rx ry h
  obtain ⟨p, xs, rfl, hq, fx, fs, q⟩ := h
  cases ry
  rcases hq with hq | hq
  · obtain ⟨its, r, pl, hz⟩ := I.list hq
    refine SeqAt.in_listAt (eqU x) pl.isList (fun w hw => mem_eqAt rx fx r fs w (by simpa using hw)) ⟨.bl _, H, I, rfl, ?_⟩
    rw [show its.toArray.any (eqU x) = its.any (eqU x) by simp, any_eqU r fs]
    exact q
  · obtain ⟨its, r, pl, hz⟩ := I.tuple hq
    refine SeqAt.in_tupleAt (eqU x) pl (fun w hw => mem_eqAt rx fx r fs w (by simpa using hw)) ⟨.bl _, H, I, rfl, ?_⟩
    rw [show its.toArray.any (eqU x) = its.any (eqU x) by simp, any_eqU r fs]
    exact q
theorem call_len_seq : CallR X (.builtin "len") (fun xs H Q => ∃ p ys, xs = [.ref p] ∧ (SqL X.K H p ys ∨ SqT X.K H p ys) ∧ Q (.int ys.length) H) := by
  intro pins s σ H xs us Q I r h
  obtain ⟨p, ys, rfl, hq, q⟩ := h
  obtain ⟨u, rfl, rx⟩ := vals1 r
  cases rx
  have hn := line63
  rcases hq with hq | hq
  · obtain ⟨its, r', pl, hz⟩ := I.list hq
    have hlen := r'.length
    exact Calls.call_len_list pl.isList (by simp only [List.size_toArray] <;> omega) ⟨.int ys.length, H, I.tok _, ⟨s.toks + 1, by rw [List.size_toArray, hlen]⟩, q⟩
  · obtain ⟨its, r', pl, hz⟩ := I.tuple hq
    have hlen := r'.length
    exact len_tuple pl (by simp only [List.size_toArray] <;> omega) ⟨.int ys.length, H, I.tok _, ⟨s.toks + 1, by rw [List.size_toArray, hlen]⟩, q⟩
theorem call_list_of : CallR X (.type "list") (fun xs H Q => ∃ p ys, xs = [.ref p] ∧ (SqL X.K H p ys ∨ SqT X.K H p ys) ∧ ∀ l, H l = none → Q (.ref l) (upd H l (.lst ys))) := by
  intro pins s σ H xs us Q I r h
  obtain ⟨p, ys, rfl, hq, q⟩ := h
  obtain ⟨u, rfl, rx⟩ := vals1 r
  cases rx
  have fin : ∀ (its : List Value), Vals ys its → ys.length ≤ sizeLine → ∀ (h' : Heap) (c' : Nat), (∀ b o', s.heap.get? b = some o' → h'.get? b = some o') →
      h'.get? s.heap.objs.size = some { cls := .type "list", dict := none, data := .seq its.toArray c', slots := #[] } → EP X pins σ Q (.ref s.heap.objs.size) { s with heap := h' } := fun its r' hz h' c' kp e =>
    ⟨.ref s.heap.objs.size, _, I.laid (t' := s.toks) kp (Nat.le_refl _) (show ObjOk X.prog X.w _ h' _ (.lst ys) from ⟨hz, its, c', r', e⟩), rfl, q _ (I.hok.fresh (Nat.le_refl _))⟩
  rcases hq with hq | hq
  · obtain ⟨its, r', pl, hz⟩ := I.list hq
    have hlen := r'.length
    obtain ⟨o, ho, hc, n, hd⟩ := pl.isList
    exact call_list_seq p (.inl rfl) ho hc hd (fun h' c' kp e => fin its r' hz h' c' kp e) (by simp only [List.size_toArray] <;> omega)
  · obtain ⟨its, r', pl, hz⟩ := I.tuple hq
    have hlen := r'.length
    obtain ⟨o, ho, hc, n, hd⟩ := pl
    exact call_list_seq p (.inr rfl) ho hc hd (fun h' c' kp e => fin its r' hz h' c' kp e) (by simp only [List.size_toArray] <;> omega)
theorem call_tuple_of : CallR X (.type "tuple") (fun xs H Q => ∃ p ys, xs = [.ref p] ∧ ((SqL X.K H p ys ∧ ∀ l, H l = none → Q (.ref l) (upd H l (.tup ys))) ∨ (SqT X.K H p ys ∧ Q (.ref p) H))) := by
  intro pins s σ H xs us Q I r h
  obtain ⟨p, ys, rfl, h⟩ := h
  obtain ⟨u, rfl, rx⟩ := vals1 r
  cases rx
  rcases h with ⟨hq, q⟩ | ⟨hq, q⟩
  · obtain ⟨its, r', pl, hz⟩ := I.list hq
    have hlen := r'.length
    refine call_tuple_list pl.isList (fun h' kp => ?_) (by simp only [List.size_toArray] <;> omega)
    have I1 : Inv X pins σ H { s with heap := h' } := I.kept (t' := s.toks) kp
    have I2 : Inv X pins σ (upd H h'.objs.size (.tup ys)) { s with heap := h'.push { cls := .type "tuple", data := .seq its.toArray } } :=
      I1.laid (t' := s.toks) (fun b o e => Heap.get?_push_of_some _ e) (Nat.le_refl _) (show ObjOk X.prog X.w _ _ _ (.tup ys) from ⟨hz, its, r', IsTup.new _ _⟩)
    exact ⟨.ref h'.objs.size, _, I2, rfl, q _ (I1.hok.fresh (Nat.le_refl _))⟩
  · obtain ⟨its, r', pl, hz⟩ := I.tuple hq
    exact call_tuple_same pl ⟨.ref p, H, I, rfl, q⟩
noncomputable def tyV (K : PySem.W.Frag) (T : String) (x : V) (H : Hp) : Prop := match x with
  | .str _ => T = "str"
  | .int _ => T = "int"
  | .ref p => (T = "list" ∧ ∃ xs, SqL K H p xs) ∨ (T = "tuple" ∧ ∃ o, K.lookup p = some o ∧ o.cls = .type "tuple" ∧ o.dict = none) ∨
      (T = "dict" ∧ ((∃ kvs, H p = some (.dK kvs)) ∨ ∃ kvs, H p = some (.dT kvs))) ∨ (T = "set" ∧ ∃ S n, H p = some (.set S n))
  | _ => False
theorem tyV_is {pins : List (Addr × Obj)} {σ : St} {H : Hp} {s : Shared} {T : String} {x : V} {v : Value} (I : Inv X pins σ H s) (r : RelV x v) (ty : tyV X.K T x H) :
    s.TypeIs v T ∧ ∀ a, v = .ref a → ∃ ob, s.heap.get? a = some ob ∧ ob.dict = none := by
  cases x with
  | str z =>
    obtain ⟨t, rfl⟩ := r
    cases (show T = "str" from ty)
    exact ⟨typeIs_str s z t, fun _ e => nomatch e⟩
  | int i =>
    obtain ⟨t, rfl⟩ := r
    cases (show T = "int" from ty)
    exact ⟨typeIs_int s i t, fun _ e => nomatch e⟩
  | ref p =>
    cases r
    rcases ty with ⟨rfl, xs, hq⟩ | ⟨rfl, o, hk, hc, hd⟩ | ⟨rfl, hk⟩ | ⟨rfl, S, n, hk⟩
    · obtain ⟨its, _, pl, _⟩ := I.list hq
      refine ⟨pl.isList.typeIs, fun a e => ?_⟩
      cases e
      obtain ⟨o, n, e, c, hd, _⟩ := pl
      exact ⟨o, e, hd⟩
    · refine ⟨⟨o, I.kIn p o hk, hc⟩, fun a e => ?_⟩
      cases e
      exact ⟨o, I.kIn _ o hk, hd⟩
    · have z : ∃ o, s.heap.get? p = some o ∧ o.ExactDict := by
        rcases hk with ⟨kvs, hk⟩ | ⟨kvs, hk⟩
        · obtain ⟨_, _, _, _, o, _, _, e, ex, _⟩ := I.hok p _ hk
          exact ⟨o, e, ex⟩
        · obtain ⟨_, _, _, _, o, _, _, e, ex, _⟩ := I.hok p _ hk
          exact ⟨o, e, ex⟩
      obtain ⟨o, e, ex⟩ := z
      refine ⟨⟨o, e, ex.1⟩, fun a e2 => ?_⟩
      cases e2
      exact ⟨o, e, ex.2.1⟩
    · obtain ⟨o, _, _, _, e, ex, _⟩ := I.hok p _ hk
      refine ⟨⟨o, e, ex.1⟩, fun a e2 => ?_⟩
      cases e2
      exact ⟨o, e, ex.2.1⟩
  | _ => exact False.elim ty
noncomputable def tBM0 (K : PySem.W.Frag) (T : String) (r : V → List V → Hp → VK → Prop) (to : TE) : TE := fun σ H Q => to σ H fun x H1 => tyV K T x H1 ∧ r x [] H1 Q
noncomputable def tBM (K : PySem.W.Frag) (T : String) (r : V → List V → Hp → VK → Prop) (to : TE) (t : TA) : TE := fun σ H Q => to σ H fun x H1 => tyV K T x H1 ∧ t σ H1 fun xs H2 => r x xs H2 Q
variable {o e : Expr} {es : List Expr} {to : TE} {t : TA} {name : Str} {apos cpos : Pos} {T id : String} {r : V → List V → Hp → VK → Prop}
theorem pe_bm0 (pa : PlainAttrs T) (slot : Slot T name id) (hty : typeOf (.builtin id) = pure (.type "method_descriptor")) (hm : MtR X id r) (ho : PE X o to)
    (hbase : attributeBase o name X.env (eval o X.env) = eval o X.env := by rfl) (hline : (apos.endLine == cpos.line) = true := by rfl) : PE X (.Call (.Attribute o name apos) [] [] cpos) (tBM0 X.K T r to) := by
  intro pins s σ H Q I h
  refine wpAny_Call_method0_late hbase hline (thn (ho pins s σ H _ I h) fun v s1 ⟨x, H1, I1, r1, ty, q1⟩ => ?_)
  obtain ⟨h1, h2⟩ := tyV_is I1 r1 ty
  exact ⟨T, id, pa, slot, hty, h1, h2, Calls.callWith_builtin rfl (PySem.evalArgs_none (hm pins s1 σ H1 x [] v [] Q I1 r1 .nil q1))⟩
theorem pe_bm (pa : PlainAttrs T) (slot : Slot T name id) (hty : typeOf (.builtin id) = pure (.type "method_descriptor")) (hm : MtR X id r) (ho : PE X o to) (ha : PA X (e :: es) t)
    (hbase : attributeBase o name X.env (eval o X.env) = eval o X.env := by rfl)
    (hfew : ((backTo cpos (starEach (e :: es) X.env)).all (fun x => !x.1) && (backToKw cpos (keywordEach [] X.env)).all (fun x => x.1.isSome)
      && decide ((e :: es).length + ([] : List Keyword).length + (if ([] : List Keyword).isEmpty then 0 else 1) < 30)) = true := by rfl)
    (hline : (apos.endLine == cpos.line) = true := by rfl) (hs : starEach (e :: es) X.env = (false, eval e X.env) :: starEach es X.env := by rfl) (hplain : (backTo cpos (starEach es X.env)).any (·.1) = false := by rfl) :
    PE X (.Call (.Attribute o name apos) (e :: es) [] cpos) (tBM X.K T r to t) := by
  intro pins s σ H Q I h
  refine wpAny_Call_method_late hbase hfew hline rfl (thn (ho pins s σ H _ I h) fun v s1 ⟨x, H1, I1, r1, ty, q1⟩ => ?_)
  obtain ⟨h1, h2⟩ := tyV_is I1 r1 ty
  refine ⟨T, id, pa, slot, hty, h1, h2, ?_⟩
  have hA := ha cpos pins s1 σ H1 _ I1 q1
  rw [hs] at hA ⊢
  refine Calls.callWith_builtin (by show (false || (backTo cpos (starEach es X.env)).any (·.1)) = false; rw [hplain] <;> rfl) (Calls.evalArgs_plain ?_)
  exact thn hA fun us s2 ⟨vs, H2, I2, r2, q2⟩ => hm pins s2 σ H2 x vs v us Q I2 r1 r2 q2
end
end L2
namespace L2
open PySem PySem.Spec PyProof.Rows
noncomputable def MtM (X : Cx) (id : String) (r : V → List V → Hp → VK → Prop) : Prop :=
  ∀ (pins : List (Addr × Obj)) (s : Shared) (σ : St) (H : Hp) (x : V) (xs : List V) (v : Value) (us : List Value) (Q : VK), Inv X pins σ H s → RelV x v → Vals xs us → r x xs H Q →
    wpAny (model X.prog X.w) X.A (call (.builtin id) (v :: us)) (EP X pins σ Q) X.xe s
theorem Vals.one {x : V} {us : List Value} (h : Vals [x] us) : ∃ u, us = [u] ∧ RelV x u := by
  cases h with
  | cons r t => cases t; exact ⟨_, rfl, r⟩
theorem Vals.zero : ∀ {us : List Value}, Vals [] us → us = []
  | _, .nil => rfl
theorem Vals.eraseIdx : ∀ {xs : List V} {us : List Value} (i : Nat), Vals xs us → Vals (xs.eraseIdx i) (us.eraseIdx i)
  | _, _, _, .nil => .nil
  | _, _, 0, .cons _ t => t
  | _, _, i + 1, .cons r t => .cons r (Vals.eraseIdx i t)
theorem Vals.reverse {xs : List V} {us : List Value} (h : Vals xs us) : Vals xs.reverse us.reverse := by
  induction h with
  | nil => exact .nil
  | cons r t ih => rw [List.reverse_cons, List.reverse_cons]; exact Vals.append ih (.cons r .nil)
theorem Vals.rep {xs : List V} {us : List Value} (h : Vals xs us) : ∀ k : Nat, Vals (List.replicate k xs).flatten (List.replicate k us).flatten
  | 0 => .nil
  | k + 1 => by
    rw [List.replicate_succ, List.replicate_succ, List.flatten_cons, List.flatten_cons]
    exact Vals.append h (Vals.rep h k)
theorem len_erase {α : Type} : ∀ (l : List α) (i : Nat), (l.eraseIdx i).length ≤ l.length
  | [], _ => Nat.le_refl _
  | _ :: _, 0 => Nat.le_succ _
  | _ :: r, i + 1 => Nat.succ_le_succ (len_erase r i)
theorem foldl_rep (its : List Value) : ∀ (k : Nat) (acc : List Value),
    List.foldl (fun x1 x2 => x1 ++ x2) acc.toArray (List.replicate k its.toArray) = (acc ++ (List.replicate k its).flatten).toArray
  | 0, acc => by simp
  | k + 1, acc => by
    have e : acc.toArray ++ its.toArray = (acc ++ its).toArray := by simp
    have e2 : (acc ++ its) ++ (List.replicate k its).flatten = acc ++ (List.replicate (k + 1) its).flatten := by
      rw [List.replicate_succ, List.flatten_cons, List.append_assoc]
    rw [← e2, ← foldl_rep its k (acc ++ its), ← e, List.replicate_succ, List.foldl_cons]
section
variable {X : Cx} {pins : List (Addr × Obj)} {σ : St} {H : Hp} {s : Shared} {l b : Addr} {xs ys zs : List V}
theorem Inv.lset {its its' : List Value} {n : Nat} {f : Array Value → Array Value} {t' : Nat} (I : Inv X pins σ H s) (hH : H l = some (.lst xs))
    (e : s.heap.get? l = some { cls := .type "list", data := .seq its.toArray n }) (hf : f its.toArray = its'.toArray) (hv : Vals ys its') (hz : ys.length ≤ sizeLine) :
    Inv X pins σ (upd H l (.lst ys)) { s with heap := s.heap.update l (Obj.mapSeq f), toks := t' } := by
  have q := PySem.IsL.update e f
  rw [hf] at q
  refine I.write (x := l) (e := l) (by rw [hH]; exact trivial) (.inl rfl) (fun b' u hb hu => (Heap.get?_update_other s.heap (Obj.mapSeq f) (Ne.symm hb)).trans hu) ⟨_, q⟩ ?_
  exact ⟨hz, its', _, hv, q⟩
theorem Inv.lnew {its : List Value} {t' : Nat} (I : Inv X pins σ H s) (hv : Vals ys its) (hz : ys.length ≤ sizeLine) :
    Inv X pins σ (upd H s.heap.objs.size (.lst ys)) { s with heap := s.heap.push { cls := .type "list", data := .seq its.toArray }, toks := t' } :=
  I.laid (fun _ _ q => Heap.get?_push_of_some _ q) (Nat.le_refl _) ⟨hz, its, 0, hv, Heap.get?_push_size _ rfl⟩
theorem Inv.fresh (I : Inv X pins σ H s) : H s.heap.objs.size = none := I.hok.fresh (Nat.le_refl _)
theorem Inv.lstM (I : Inv X pins σ H s) (hH : H l = some (.lst xs)) : xs.length ≤ sizeLine ∧ ∃ (its : List Value) (n : Nat), Vals xs its ∧ xs.length = its.length ∧ s.heap.get? l = some { cls := .type "list", data := .seq its.toArray n } := by
  obtain ⟨z, its, n, r, e⟩ := I.hok l _ hH
  exact ⟨z, its, n, r, r.length, e⟩
theorem notLongL {n : Nat} (h : n ≤ sizeLine) : Builtin.List.listTooLong n = false := by
  unfold Builtin.List.listTooLong
  exact decide_eq_false (by omega)
end
section
variable {X : Cx}
inductive rAppend (x : V) (vs : List V) (H : Hp) (Q : VK) : Prop
  | mk (l : Addr) (xs : List V) (y : V) (ex : x = .ref l) (ev : vs = [y]) (h : H l = some (.lst xs)) (z : xs.length < sizeLine) (q : Q .non (upd H l (.lst (xs ++ [y])))) : rAppend x vs H Q
theorem mt_append : MtM X "list.append" rAppend := by
  intro pins s σ H x vs v us Q I rx rv h
  obtain ⟨l, xs, y, rfl, rfl, hH, hz, q⟩ := h
  cases rx
  obtain ⟨u, rfl, ru⟩ := rv.one
  obtain ⟨z, its, n, r, hl, e⟩ := I.lstM hH
  refine call_meets F.slot_list_append ⟨_, e, rfl⟩ F.entry_list_append (F.args_list_append_2 _ _) (PySem.list_append l its.toArray n u (by rw [List.size_toArray]; omega)) ⟨e, ?_⟩
  refine ⟨.non, _, I.lset (its' := its ++ [u]) hH e (by simp) (r.append (.cons ru .nil)) ?_, rfl, q⟩
  rw [List.length_append, List.length_singleton]
  omega
noncomputable def rExtend : V → List V → Hp → VK → Prop := fun x vs H Q => ∃ l b xs zs, x = .ref l ∧ vs = [.ref b] ∧ H l = some (.lst xs) ∧ H b = some (.lst zs) ∧ xs.length + zs.length ≤ sizeLine ∧ Q .non (upd H l (.lst (xs ++ zs)))
theorem mt_extend : MtM X "list.extend" rExtend := by
  intro pins s σ H x vs v us Q I rx rv h
  obtain ⟨l, b, xs, zs, rfl, rfl, hH, hB, hz, q⟩ := h
  cases rx
  obtain ⟨u, rfl, ru⟩ := rv.one
  cases ru
  obtain ⟨z, its, n, r, hl, e⟩ := I.lstM hH
  obtain ⟨z2, its2, n2, r2, hl2, e2⟩ := I.lstM hB
  have hsz : its.toArray.size + its2.toArray.size ≤ sizeLine := by rw [List.size_toArray, List.size_toArray]; omega
  have hlong : ¬ (!its.toArray.isEmpty && Builtin.List.listTooLong (its.toArray.size + its2.toArray.size)) = true := by
    rw [notLongL hsz, Bool.and_false]
    exact Bool.false_ne_true
  refine call_meets F.slot_list_extend ⟨_, e, rfl⟩ F.entry_list_extend (F.args_list_extend_2 _ _)
    (AutoSeq1.list_extend_list_list_0 l its.toArray n b its2.toArray n2 hlong (by rw [List.size_toArray]; omega) (by omega)) ⟨e, e2, ?_⟩
  refine ⟨.non, _, I.lset (its' := its ++ its2) hH e (by simp) (r.append r2) ?_, rfl, q⟩
  rw [List.length_append]
  omega
inductive rPopAt (x : V) (vs : List V) (H : Hp) (Q : VK) : Prop
  | mk (l : Addr) (xs : List V) (i : Int) (k : Nat) (y : V) (ex : x = .ref l) (ev : vs = [.int i]) (h : H l = some (.lst xs)) (z : -(2 ^ 63) ≤ i) (z' : i < 2 ^ 63) (s : seqIndex? i xs.length = some k) (g : xs[k]? = some y) (q : Q y (upd H l (.lst (xs.eraseIdx k)))) : rPopAt x vs H Q
theorem mt_popAt : MtM X "list.pop" rPopAt := by
  intro pins s σ H x vs v us Q I rx rv h
  obtain ⟨l, xs, i, k, y, rfl, rfl, hH, h1, h2, hk, hy, q⟩ := h
  cases rx
  obtain ⟨u, rfl, ru⟩ := rv.one
  obtain ⟨t, rfl⟩ := ru
  obtain ⟨z, its, n, r, hl, e⟩ := I.lstM hH
  obtain ⟨w, hw, rw'⟩ := r.get hy
  refine call_meets F.slot_list_pop ⟨_, e, rfl⟩ F.entry_list_pop (F.args_list_pop_2 _ _)
    (MeetsSeq.list_pop_at l its.toArray n i t k w (fitsIndex_both h1 h2) (by rw [List.size_toArray, ← hl]; exact hk) (by rw [← Array.getElem?_toList]; exact hw) (by rw [List.size_toArray]; omega)) ⟨e, ?_⟩
  refine ⟨y, _, I.lset (its' := its.eraseIdx k) hH e ?_ (r.eraseIdx k) ?_, rw', q⟩
  · show its.toArray.eraseIdxIfInBounds k = (its.eraseIdx k).toArray
    rw [List.eraseIdxIfInBounds_toArray]
  · have := len_erase xs k
    omega
noncomputable def rReverse : V → List V → Hp → VK → Prop := fun x vs H Q => ∃ l xs, x = .ref l ∧ vs = [] ∧ H l = some (.lst xs) ∧ Q .non (upd H l (.lst xs.reverse))
theorem mt_reverse : MtM X "list.reverse" rReverse := by
  intro pins s σ H x vs v us Q I rx rv h
  obtain ⟨l, xs, rfl, rfl, hH, q⟩ := h
  cases rx
  have hus := rv.zero
  subst hus
  obtain ⟨z, its, n, r, hl, e⟩ := I.lstM hH
  refine call_meets F.slot_list_reverse ⟨_, e, rfl⟩ F.entry_list_reverse (F.args_list_reverse_1 _) (AutoSeq1.list_reverse_list_0 l its.toArray n (by rw [List.size_toArray]; omega)) ⟨e, ?_⟩
  refine ⟨.non, _, I.lset (its' := its.reverse) hH e (by simp) r.reverse ?_, rfl, q⟩
  rw [List.length_reverse]
  omega
noncomputable def rRep : R2 := fun x y H Q => ∃ l k xs, x = .ref l ∧ y = .int k ∧ H l = some (.lst xs) ∧ -(2 ^ 63) ≤ k ∧ k < 2 ^ 63 ∧ xs.length * k.toNat ≤ sizeLine ∧
  ∀ p, H p = none → Q (.ref p) (upd H p (.lst (List.replicate k.toNat xs).flatten))
theorem len_rep {α : Type} (xs : List α) (k : Nat) : (List.replicate k xs).flatten.length = k * xs.length := by
  induction k with
  | zero => simp
  | succ k ih => rw [List.replicate_succ, List.flatten_cons, List.length_append, ih, Nat.succ_mul, Nat.add_comm]
theorem op_rep : OpR X (binaryOp .Mult) rRep := by
  intro pins s σ H x y v u Q I rx ry h
  obtain ⟨l, k, xs, rfl, rfl, hH, h1, h2, hz, q⟩ := h
  cases rx
  obtain ⟨t, rfl⟩ := ry
  obtain ⟨z, its, n, r, hl, e⟩ := I.lstM hH
  have hlen : its.toArray.size * k.toNat ≤ sizeLine := by rw [List.size_toArray, ← hl]; exact hz
  have hcap : ¬ its.toArray.size * k.toNat > (2 ^ 63 - 1) / 8 := by
    have : (sizeLine : Nat) ≤ (2 ^ 63 - 1) / 8 := by decide
    omega
  have hfit : ¬ (!Builtin.List.listFitsIndex k) = true := by
    rw [fitsIndex_both h1 h2]
    exact Bool.false_ne_true
  have hlong : ¬ Builtin.List.listTooLong (its.toArray.size * k.toNat) = true := by
    rw [notLongL hlen]
    exact Bool.false_ne_true
  have hnew : List.foldl (fun x1 x2 => x1 ++ x2) #[] (List.replicate (if its.toArray.isEmpty = true then 0 else k.toNat) its.toArray) = (List.replicate k.toNat its).flatten.toArray := by
    have f0 : ∀ m : Nat, List.foldl (fun x1 x2 => x1 ++ x2) #[] (List.replicate m its.toArray) = (List.replicate m its).flatten.toArray := fun m => by
      have := foldl_rep its m []
      rw [List.nil_append] at this
      exact this
    rw [f0]
    cases its with
    | nil => simp
    | cons a r' => rw [if_neg (by simp)]
  refine wpAny_binaryOp_repeat_ref (T := "list") (U := "int") (by decide) ⟨_, e, rfl⟩ (fun s' => typeIs_int s' k t) noFill_list_mul F.fills_int_mul F.slot_int_rmul repeat_list F.slot_int_index.lookup
    (call_meets F.slot_int_rmul (typeIs_int s k t) F.entry_int_rmul (F.args_int_rmul_2 _ _) (int___rmul___int_list k t l its.toArray n)
      ⟨e, rfl, ⟨_, e, rfl⟩, call_meets F.slot_list_mul ⟨_, e, rfl⟩ F.entry_list_mul (F.args_list_mul_2 _ _) (AutoListH.list___mul___list_int_3 l its.toArray n k t hfit hcap hlong) ⟨e, ?_⟩⟩)
  rw [hnew]
  exact ⟨.ref _, _, I.lnew (t' := s.toks) (r.rep k.toNat) (by rw [len_rep, Nat.mul_comm]; exact hz), rfl, q _ I.fresh⟩
end
section
variable {prog : Program} {w : World} {A : Around} {E : Value → Shared → Prop} {s : Shared}
set_option maxRecDepth 100000 in
end
section
variable {X : Cx}
end
end L2
namespace Att
open PySem PySem.W PySem.Calls PyProof.Rows
theorem ints_of_wellAll {P : Params} {h : Heap} : ∀ (ns : List Int) (vs : List Value), WellAll P h vs (ns.map WData.int) → IntsAre vs ns := by
  intro ns
  induction ns with
  | nil =>
    intro vs w
    rw [List.map_nil] at w
    cases w
    exact .nil
  | cons n ns ih =>
    intro vs w
    rw [List.map_cons] at w
    cases w with
    | cons a b =>
      cases a
      exact .cons _ _ (ih _ b)
theorem script_of {l : OpenLaw} {n : Nat} (hn : l.most = some n) {P : Params} {h : Heap} {args : List WData} {vals : List Value}
    (hpre : l.row.toRowW.claim.pre args = true) (hwl : WellAll P h vals args) :
    ∃ a vs ns, vals = [Value.ref a] ∧ args = [WData.list (ns.map WData.int)] ∧ h.get? a = some { cls := .type "list", data := .seq vs.toArray } ∧ IntsAre vs ns ∧ ns.length ≤ n := by
  have hsh : WShape.hasAll [] args [.list .int] = true := (pre_splitW hpre).1
  have hc : l.pre.holds [] { args := args } = true := (pre_splitW hpre).2
  obtain ⟨d, r, rfl, h1, h2⟩ := hasAllW_cons hsh
  obtain rfl := hasAllW_nil h2
  obtain ⟨xs, rfl, h3⟩ := hasW_list h1
  obtain ⟨ns, rfl⟩ := items_int h3
  have hlen : ns.length ≤ n := by
    unfold OpenLaw.pre at hc
    have h4 : (WTm.not (.lt (.lit (.int (n : Int))) (.len (.arg 0)))).holds [] { args := [.list (ns.map .int)] } = true := by
      have h4 := (holds_andW hc).1
      rw [hn] at h4
      exact h4
    have h5 := condW_of h4 (w_not (w_lt w_lit (w_len_list (w_arg rfl))))
    rw [List.length_map] at h5
    refine Nat.le_of_not_lt fun q => ?_
    have q' : (n : Int) < ((ns.length : Nat) : Int) := by omega
    first
      | (rw [decide_eq_true q'] at h5; exact absurd h5 (by decide))
      | (simp at h5; omega)
  cases hwl with
  | cons w1 w2 =>
    cases w2
    cases w1 with
    | list ho hall => exact ⟨_, _, ns, rfl, rfl, ho, ints_of_wellAll ns _ hall, hlen⟩
theorem post_true (l : OpenLaw) (args : List WData) : l.row.toRowW.claim.post args (.bool true) args = true :=
  postW_of (r := l.row.toRowW) (X := (true == true))
    (show WShape.has [] (.bool true) .bool = true by first | rfl | decide | simp [WShape.has, WShape.arms, WShape.armsAll])
    (show (WTm.eq .res (.lit (.bool true))).value [] { args := args, res := some (.bool true), after := args } = some (.bool (true == true)) from w_eq_bool (w_res rfl) w_lit) rfl
theorem attach_call {l : OpenLaw} {n : Nat} {q : Program} {loose : List Str} {XP : (Str → Option Value) → Heap → Prop} {YP : World → Heap → Prop} {d : DefRec}
    (hn : l.most = some n) (hdf : d.params.defaults = [])
    (call : ∀ (w : World) (s₀ s₁ : Shared) (mg mb : Str → Option Value) (fa : Addr) (o : Obj) (pm cd doc : Value) (a : Addr) (vs : List Value) (ns : List Int),
      Ground q loose [] XP w s₀ mg mb s₁.heap → YP w s₁.heap →
      s₁.heap.get? fa = some o → o.data = .func (docDef d.name d.params d.body d.scope pm cd doc) → s₁.heap.CodeRec cd d.name → mg d.name = some (.ref fa) →
      s₁.heap.get? a = some { cls := .type "list", data := .seq vs.toArray } → IntsAre vs ns → ns.length ≤ n → s₁.gens = #[] →
      codeAny (model l.prog w) callerA (.call (.ref fa) ⟨[.ref a], []⟩) (fun r s' => r = .ok (.ret (.bool true)) ∧ OldK s₁.heap s'.heap ∧ s'.os = s₁.os ∧ AllBare s'.gens) s₁) :
    WalkO q loose XP YP l.row.toRowW d [] (fun f vs => PySem.call f vs) := by
  intro w s₀ s₁ mg mb G Y fa o pm cd doc dV kV ho hd hcd hD hmg hg args vals as hpre hlay hrd hwl hlo
  obtain rfl : dV = .none := Dflts.none hD hdf
  obtain rfl : kV = .none := Dflts.noKw hD
  obtain ⟨a, vs, ns, rfl, rfl, hobj, hints, hlen⟩ := script_of hn hpre hwl
  refine enter_call (codeAny_mono (call w s₀ s₁ mg mb fa o pm cd doc a vs ns G Y ho (fd_plain hd) hcd hmg hobj hints hlen hg) fun r s' hq => ?_)
  obtain ⟨rfl, h2, h3, h4⟩ := hq
  exact ⟨.inl ⟨.bool true, .bool true, [], rfl, fun _ => rfl, .bool true, post_true l _, fun _ => ⟨List.Pairwise.nil, fun _ hm => (nomatch hm)⟩⟩, h2, h3, h4⟩
section
variable {prog : Program} {w : World} {A : Around} {E : Value → Shared → Prop} {s : Shared} {K : Frag}
end
end Att
namespace L2
open PySem PySem.Spec PyProof.Rows
theorem vals_ints : ∀ {vs : List Value} {ns : List Int}, IntsAre vs ns → Vals (ns.map V.int) vs
  | _, _, .nil => .nil
  | _, _, .cons n t h => .cons ⟨t, rfl⟩ (vals_ints h)
noncomputable def Only (H : Hp) : Prop := ∀ b, H b = none ∨ ∃ o xs, H b = some (.frz o (.lst xs))
theorem law_call {P : Program} {w : World} {K : PySem.W.Frag} {mg mb : Str → Option Value} {CX : CXT} {k : Nat} {fa a : Addr} {fd : FuncData} {x : Str} {sp : Sp} {s₁ : Shared} {vs : List Value} {ns : List Int}
    (KX : K.In s₁.heap) (hns : s₁.heap.Ns mainGlobals mg) (hb : s₁.heap.Ns builtinsNs mb) (hbb : ∀ x : Str, x ≠ "__name__" → mb x = bootBuiltins x) (hlim : s₁.heap.NoLimit) (hg : s₁.gens = #[])
    (ha : s₁.heap.get? a = some { cls := .type "list", data := .seq vs.toArray }) (hi : IntsAre vs ns) (hl : ns.length ≤ sizeLine) (hr : Room k callerA)
    (F : ∀ base : Heap, K.In base → base.Ns mainGlobals mg → FnOk P w K mg base CX k fa fd [x] sp) (hbind : ∀ (s : Shared) (u : Value), BindsTo s fd ⟨[u], []⟩ [(x, u)])
    (hsp : ∀ H : Hp, Only H → SqL K H a (ns.map V.int) → sp [.ref a] H (fun v _ => v = .bl true) fun _ _ _ => False)
    (hCX : ∀ H e s', CX [] H s₁ (fun _ _ _ => False) e s' → False) :
    codeAny (model P w) callerA (.call (.ref fa) ⟨[.ref a], []⟩) (fun r s' => r = .ok (.ret (.bool true)) ∧ OldK s₁.heap s'.heap ∧ s'.os = s₁.os ∧ AllBare s'.gens) s₁ := by
  have rv := vals_ints hi
  have lenV := hi.length
  have core : ∀ H : Hp, Only H → SqL K H a (ns.map V.int) → HOk P w H s₁.heap → (∀ b, H b ≠ none → b = a) → (H a ≠ none → K.lookup a = none) →
      codeAny (model P w) callerA (.call (.ref fa) ⟨[.ref a], []⟩) (fun r s' => r = .ok (.ret (.bool true)) ∧ OldK s₁.heap s'.heap ∧ s'.os = s₁.os ∧ AllBare s'.gens) s₁ := by
    intro H hO hS hok hA hK
    have base_of : ∀ {b : Addr} {o : Obj}, s₁.heap.get? b = some o → H b = none → (hidT s₁.heap H).get? b = some o := fun e n => hidT_get e n
    have noA : ∀ {b : Addr} {o : Obj} {es : Array DictEntry} {ep : Nat}, s₁.heap.get? b = some o → o.data = .dict es ep → H b = none := fun {b o es ep} e d => by
      cases q : H b with
      | none => rfl
      | some u =>
        have e' : b = a := hA b (by rw [q]; simp)
        subst e'
        rw [ha] at e; cases e
        have d' : Data.seq vs.toArray _ = Data.dict es ep := d
        cases d'
    have nsK : ∀ {b : Addr} {m : Str → Option Value}, s₁.heap.Ns b m → (hidT s₁.heap H).Ns b m := fun {b m} ⟨o, es, ep, e, d, r⟩ => ⟨o, es, ep, base_of e (noA e d), d, r⟩
    have hKb : K.In (hidT s₁.heap H) := fun b o e => base_of (KX b o e) (by
      cases q : H b with
      | none => rfl
      | some u =>
        have e' : b = a := hA b (by rw [q]; simp)
        subst e'
        rw [hK (by rw [q]; simp)] at e; cases e)
    have hM : Mod K mg (hidT s₁.heap H) := ⟨hKb, nsK hns, ⟨mb, nsK hb, hbb⟩, let ⟨mc, h1, h2⟩ := hlim; ⟨mc, nsK h1, h2⟩⟩
    have e0 : Env0 P w K mg (hidT s₁.heap H) callerA [] s₁ H := ⟨rfl, hM, fun b o e => of_hidT e, Nat.le_of_eq (hidT_size _ _), trivial, fun b hb => absurd (show b ∈ ([] : List Addr) from hb) (by simp), hok, .of_eq hg⟩
    refine codeAny_mono ((F _ hKb (nsK hns)).run callerA [] s₁ H ⟨[.ref a], []⟩ [.ref a] [.ref a] _ _ hr e0 (hbind s₁ (.ref a)) (.cons rfl .nil) (hsp H hO hS)) fun r s' h => ?_
    cases r with
    | error e => exact (hCX H e s' h).elim
    | ok fl =>
      cases fl with
      | next => exact False.elim h
      | brk => exact False.elim h
      | cont => exact False.elim h
      | ret u =>
        obtain ⟨v, H', os, bare, un, hok', r', q⟩ := h
        have q' : v = .bl true := q
        subst q'
        obtain rfl : u = Value.bool true := r'
        refine ⟨rfl, OldK.of_keep fun b o e => ?_, os, bare⟩
        cases q : H b with
        | none => exact un.keep b o e q (by intro z; exact absurd (show b ∈ ([] : List Addr) from z) (by simp)) (by simp)
        | some u =>
          rcases hO b with z | ⟨ob, xs, z⟩
          · rw [q] at z; cases z
          · have z2 := un.frzs b ob _ z
            obtain ⟨e1, _⟩ := hok b _ z
            obtain ⟨e2, _⟩ := hok' b _ z2
            rw [e] at e1; cases e1
            exact e2
  cases hk : K.lookup a with
  | some o =>
    have e := KX a o hk
    rw [ha] at e
    cases e
    refine core (fun _ => none) (fun _ => .inl rfl) (.inr ⟨_, vs.toArray, _, hk, rfl, rfl, rfl, by rw [List.size_toArray, lenV]; exact hl, by simpa using rv⟩) (fun b u z => by have z' : (none : Option HO) = some u := z; cases z') (fun b z => absurd rfl z) fun z => absurd rfl z
  | none =>
    refine core (fun b => if b = a then some (.frz { cls := .type "list", data := .seq vs.toArray } (.lst (ns.map V.int))) else none) (fun b => ?_) (.inl (.inr ⟨{ cls := .type "list", data := .seq vs.toArray }, if_pos rfl⟩)) (fun b u z => ?_) (fun b z => ?_) fun _ => hk
    · by_cases hb : b = a
      · exact .inr ⟨_, _, if_pos hb⟩
      · exact .inl (if_neg hb)
    · by_cases hb : b = a
      · have z' := (if_pos hb).symm.trans z
        cases z'
        subst hb
        exact ⟨ha, by rw [List.length_map]; exact hl, vs, _, rv, ha⟩
      · have z' := (if_neg hb).symm.trans z
        cases z'
    · by_cases hb : b = a
      · exact hb
      · exact absurd (if_neg hb) z
end L2
namespace L2
open PySem PySem.Spec PyProof.Rows
theorem walk_of {l : PySem.W.OpenLaw} {n k : Nat} {q : Program} {loose : List Str} {XP : (Str → Option Value) → Heap → Prop} {YP : World → Heap → Prop} {d : DefRec} {K : Params → PySem.W.Frag} {CX : World → CXT} {sp : World → Sp} {x : Str}
    (hn : l.most = some n) (hn2 : n ≤ sizeLine) (hdf : d.params.defaults = []) (hr : Room k callerA)
    (hY : ∀ (w : World) (h : Heap), YP w h → (K w.params).In h)
    (F : ∀ (w : World) (mg : Str → Option Value) (fa : Addr) (h : Heap), (K w.params).In h → h.Ns mainGlobals mg → mg d.name = some (.ref fa) →
      ∃ fd : FuncData, (∀ (s : Shared) (u : Value), BindsTo s fd ⟨[u], []⟩ [(x, u)]) ∧
        ∀ base : Heap, (K w.params).In base → base.Ns mainGlobals mg → FnOk l.prog w (K w.params) mg base (CX w) k fa fd [x] (sp w))
    (hsp : ∀ (w : World) (H : Hp) (a : Addr) (ns : List Int), ns.length ≤ n → Only H → SqL (K w.params) H a (ns.map V.int) → sp w [.ref a] H (fun v _ => v = .bl true) fun _ _ _ => False)
    (hCX : ∀ (w : World) (H : Hp) (s : Shared) (e : Value) (s' : Shared), CX w [] H s (fun _ _ _ => False) e s' → False) :
    PySem.W.WalkO q loose XP YP l.row.toRowW d [] (fun f vs => PySem.call f vs) := by
  refine Att.attach_call hn hdf fun w s₀ s₁ mg mb fa o pm cd doc a vs ns G Y ho hd hcd hmg hobj hints hlen hg => ?_
  have KX := hY w _ Y
  obtain ⟨fd, hb, hF⟩ := F w mg fa _ KX G.T.g hmg
  exact law_call KX G.T.g G.T.b G.T.builtins G.T.nolimit hg hobj hints (Nat.le_trans hlen hn2) hr hF hb (fun H hO hS => hsp w H a ns hlen hO hS) fun H e s' => hCX w H s₁ e s'
end L2
namespace L2
open PySem PySem.Spec PyProof.Rows
noncomputable def defArgs (s : Stmt) : Arguments := match s with
  | .FunctionDef _ a _ _ _ _ _ _ _ _ => a
  | _ => { posonlyargs := [], args := [], vararg := none, kwonlyargs := [], kw_defaults := [], kwarg := none, defaults := [] }
noncomputable def defBody (s : Stmt) : List Stmt := match s with
  | .FunctionDef _ _ b _ _ _ _ _ _ _ => b
  | _ => []
noncomputable def defScope (s : Stmt) : Scope := match s with
  | .FunctionDef _ _ _ _ _ _ sc _ _ _ => sc
  | _ => { kind := .function, names := [], isGenerator := false, isCoroutine := false }
noncomputable abbrev E0 : XK := fun _ _ _ => False
structure Fun (K : PySem.W.Frag) (x qual : Str) (st : Stmt) (f : Addr) (fd : FuncData) : Prop where
  ex : ∃ (oc : Value) (od : Option Addr) (kV doc pm : Value) (an : Option Addr) (cdv ct : Value) (osl : Array (Option Value)),
    fd = PySem.W.fnOf x qual (defArgs st) (defBody st) (defScope st) .none kV doc pm an cdv ct ∧ K.lookup f = some ⟨oc, od, .func fd, osl⟩ ∧ PySem.W.codeIn K cdv qual = true
  kp : PySem.W.keepIn K (.ref f) = true
section
variable {P : Program} {w : World} {K : PySem.W.Frag} {mg : Str → Option Value} {base : Heap}
theorem Fun.binds {x qual : Str} {st : Stmt} {f : Addr} {fd : FuncData} {ps : List Str} (F : Fun K x qual st f fd)
    (h : ∀ (kV doc pm : Value) (an : Option Addr) (cdv ct : Value) (us : List Value), us.length = ps.length → bindArgs (PySem.W.fnOf x qual (defArgs st) (defBody st) (defScope st) .none kV doc pm an cdv ct) ⟨us, []⟩ = pure (ps.zip us)) : Binds K fd ps [] := by
  obtain ⟨oc, od, kV, doc, pm, an, cdv, ct, osl, rfl, lk, hcd⟩ := F.ex
  exact .all (h kV doc pm an cdv ct)
theorem fun_mk {x qual : Str} {st : Stmt} {f : Addr} {oc : Value} {od an : Option Addr} {osl : Array (Option Value)} {kV doc pm cdv ct : Value} (l : K.lookup f = some ⟨oc, od, .func (PySem.W.fnOf x qual (defArgs st) (defBody st) (defScope st) .none kV doc pm an cdv ct), osl⟩)
    (c : PySem.W.codeIn K cdv qual = true) (k : PySem.W.keepIn K (.ref f) = true) : Fun K x qual st f (PySem.W.fnOf x qual (defArgs st) (defBody st) (defScope st) .none kV doc pm an cdv ct) := ⟨⟨oc, od, kV, doc, pm, an, cdv, ct, osl, rfl, l, c⟩, k⟩
end
section
variable {X : Cx}
theorem pv (i : Nat) {x : Str} {pos : Pos} (hN : X.N[i]? = some x := by rfl) (hv : Vis X.env.scope x := by first | exact Or.inl rfl | exact Or.inr (Or.inl rfl) | exact Or.inr (Or.inr rfl)) (hd : (x == ("__debug__" : Str)) = false := by decide)
    (hcd : (x == ("__classdict__" : Str)) = false := by decide) : PE X (.Name x pos) (tVar i) := pe_var hN hv hd hcd
end
theorem iteF {A B : Prop} (h : B) : if false = true then A else B := by
  rw [if_neg Bool.false_ne_true]
  exact h
theorem iteT {A B : Prop} (h : A) : if true = true then A else B := by
  rw [if_pos rfl]
  exact h
theorem ite2 {c A B : Prop} [Decidable c] (h1 : c → A) (h2 : ¬ c → B) : if c then A else B := by
  by_cases h : c
  · rw [if_pos h]
    exact h1 h
  · rw [if_neg h]
    exact h2 h
theorem iteNS {c A B : Prop} [Decidable c] (hc : c) (h : B) : if (!decide c) = true then A else B := by
  rw [decide_eq_true hc]
  exact iteF h
noncomputable def Same (H H' : Hp) : Prop := ∀ b o, H b = some o → H' b = some o
theorem Same.refl (H : Hp) : Same H H := fun _ _ h => h
theorem Same.trans {H H1 H2 : Hp} (a : Same H H1) (b : Same H1 H2) : Same H H2 := fun c o h => b c o (a c o h)
theorem Same.free {H H' : Hp} (e : Same H H') {l : Addr} (h : H' l = Option.none) : H l = Option.none := by
  cases q : H l with
  | none => rfl
  | some o =>
    rw [e l o q] at h
    cases h
theorem Same.seq {K : PySem.W.Frag} {H H' : Hp} {a : Addr} {xs : List V} (e : Same H H') (h : SqL K H a xs) : SqL K H' a xs := by
  rcases h with (h | ⟨o, h⟩) | h
  · exact .inl (.inl (e _ _ h))
  · exact .inl (.inr ⟨o, e _ _ h⟩)
  · exact .inr h
end L2
set_option Elab.async false
set_option linter.all false
set_option maxRecDepth 100000
namespace L2
open PySem
noncomputable def DK (h h' : Heap) : Prop := ∀ (b : Nat) (o : Obj), h.objs[b]? = some o → ∃ o' : Obj, h'.objs[b]? = some o' ∧ o'.dict = o.dict
theorem DK.refl (h : Heap) : DK h h := fun _ o e => ⟨o, e, rfl⟩
theorem DK.trans {h h1 h2 : Heap} (k : DK h h1) (l : DK h1 h2) : DK h h2 := fun b o e => by
  obtain ⟨o1, e1, d1⟩ := k b o e
  obtain ⟨o2, e2, d2⟩ := l b o1 e1
  exact ⟨o2, e2, d2.trans d1⟩
theorem DK.push {h h' : Heap} {o : Obj} (k : DK h h') : DK h (h'.push o) := fun b ob e => by
  obtain ⟨o', e', d⟩ := k b ob e
  obtain ⟨objs, l⟩ := h'
  have lt : b < objs.size := (Array.getElem?_eq_some_iff.mp e').1
  exact ⟨o', by show (objs.push o)[b]? = some o'; rw [Array.getElem?_push_lt lt, ← e']; exact (Array.getElem?_eq_getElem lt).symm, d⟩
theorem DK.update {h h' : Heap} {a : Addr} {f : Obj → Obj} (k : DK h h') (hf : ∀ o, (f o).dict = o.dict) : DK h (h'.update a f) := fun b ob e => by
  obtain ⟨o', e', d⟩ := k b ob e
  obtain ⟨objs, l⟩ := h'
  show ∃ o'', (objs.modify a f)[b]? = some o'' ∧ _
  rw [Array.getElem?_modify]
  have e' : objs[b]? = some o' := e'
  by_cases hab : a = b
  · rw [if_pos hab, e']; exact ⟨f o', rfl, (hf o').trans d⟩
  · rw [if_neg hab]; exact ⟨o', e', d⟩
theorem DK.get {h h' : Heap} (k : DK h h') {b : Addr} {o o' : Obj} (e : h.get? b = some o) (e' : h'.get? b = some o') : o'.dict = o.dict := by
  obtain ⟨o1, e1, d⟩ := k b o (Heap.get?_some_iff.mp e).1
  have := (Heap.get?_some_iff.mp e').1
  rw [e1] at this; cases this; exact d
noncomputable def KD {α : Type} : Sem α → Prop
  | .pure _ => True
  | .raise _ => True
  | .unsupported _ => True
  | .finish _ => True
  | .rule _ k => KD (k ())
  | .at _ k => KD (k ())
  | .load _ _ k => ∀ o, KD (k o)
  | .update _ _ f k => (∀ o, (f o).dict = o.dict) ∧ KD (k ())
  | .alloc _ k => ∀ a, KD (k a)
  | .loadIfAlive _ k => ∀ o, KD (k o)
  | .point _ k => KD (k ())
  | .register _ k => KD (k ())
  | .fresh k => ∀ a, KD (k a)
  | .ask k => ∀ a, KD (k a)
  | .choose _ _ k => ∀ a, KD (k a)
  | .os _ _ k => ∀ a, KD (k a)
  | .call .. => False
  | .handled _ k => ∀ a, KD (k a)
  | .newGen _ k => ∀ a, KD (k a)
  | .genState _ k => ∀ a, KD (k a)
  | .resume .. => False
  | .yield .. => False
  | .stack k => ∀ a, KD (k a)
  | .fork .. => False
  | .thread k => ∀ a, KD (k a)
  | .await .. => False
theorem KD.bind {α β : Type} : ∀ {m : Sem α} {f : α → Sem β}, KD m → (∀ a, KD (f a)) → KD (m >>= f) := by
  intro m f hm hf
  show KD (m.bind f)
  induction m with
  | pure a => exact hf a
  | raise | unsupported | finish => exact True.intro
  | rule _ k ih | «at» _ k ih | point _ k ih | register _ k ih => exact ih () hm
  | update _ _ g k ih => exact ⟨hm.1, ih () hm.2⟩
  | load _ _ k ih | alloc _ k ih | loadIfAlive _ k ih | fresh k ih | ask k ih | choose _ _ k ih | os _ _ k ih | handled _ k ih | newGen _ k ih | genState _ k ih | stack k ih | thread k ih => exact fun a => ih a (hm a)
  | call | resume | yield | fork | await => exact False.elim hm
theorem wp_kd {α : Type} {M : Model} {Γ : Ctx} {Q : α → Pos → Shared → Prop} {E : Value → Pos → Shared → Prop} {h0 : Heap} : ∀ (t : Sem α), KD t → ∀ (p : Pos) (s : Shared), DK h0 s.heap → Sem.wp M Γ t Q E p s →
    Sem.wp M Γ t (fun a p' s' => Q a p' s' ∧ DK h0 s'.heap) (fun e p' s' => E e p' s' ∧ DK h0 s'.heap) p s := by
  intro t
  induction t with
  | pure a => exact fun _ p s k h => ⟨h, k⟩
  | raise e => exact fun _ p s k h => ⟨h, k⟩
  | unsupported | finish | yield | fork | await | register => exact fun _ _ _ _ h => h
  | rule _ k ih | «at» _ k ih | point _ k ih => exact fun hk p s d h => ih () hk _ s d h
  | fresh k ih | os _ _ k ih | newGen _ k ih => exact fun hk p s d h => ih _ (hk _) p _ d h
  | ask k ih | handled _ k ih | stack k ih | thread k ih | loadIfAlive _ k ih => exact fun hk p s d h => ih _ (hk _) p s d h
  | alloc o k ih => exact fun hk p s d h => ih _ (hk _) p _ d.push h
  | load a _ k ih | genState a k ih => exact fun hk p s d ⟨o, ho, h⟩ => ⟨o, ho, ih _ (hk _) p s d h⟩
  | update a _ f k ih => exact fun hk p s d ⟨ha, h⟩ => ⟨ha, ih _ hk.2 p _ (d.update hk.1) h⟩
  | choose _ _ k ih => exact fun hk p s d ⟨ha, h⟩ => ⟨ha, ih _ (hk _) p _ d h⟩
  | call | resume => exact fun hk => False.elim hk
theorem wpAny_kd {α : Type} {M : Model} {A : Around} {t : Sem α} {Q : α → Shared → Prop} {E : Value → Shared → Prop} {s : Shared} (k : KD t) (h : wpAny M A t Q E s) :
    wpAny M A t (fun a s' => Q a s' ∧ DK s.heap s'.heap) (fun e s' => E e s' ∧ DK s.heap s'.heap) s := fun Γ p hΓ => wp_kd t k p s (DK.refl _) (h Γ p hΓ)
theorem wpAny_dk {α : Type} {M : Model} {A : Around} {t : Sem α} {Q : α → Shared → Prop} {E : Value → Shared → Prop} {s : Shared} (k : KD t) (h : wpAny M A t (fun a s' => DK s.heap s'.heap → Q a s') (fun e s' => DK s.heap s'.heap → E e s') s) : wpAny M A t Q E s :=
  wpAny_mono (wpAny_kd k h) (fun _ _ x => x.1 x.2) fun _ _ x => x.1 x.2
theorem wpAny_dkQ {α : Type} {M : Model} {A : Around} {t : Sem α} {Q : α → Shared → Prop} {E : Value → Shared → Prop} {s : Shared} (k : KD t) (h : wpAny M A t (fun a s' => DK s.heap s'.heap → Q a s') E s) : wpAny M A t Q E s :=
  wpAny_mono (wpAny_kd k h) (fun _ _ x => x.1 x.2) fun _ _ x => x.1
theorem KD.ite {α : Type} {c : Prop} [Decidable c] {x y : Sem α} (hx : KD x) (hy : KD y) : KD (if c then x else y) := by split <;> assumption
theorem kd_load {α : Type} {a : Addr} {f : Obj → Sem α} (h : ∀ o, KD (f o)) : KD (load a >>= f) := KD.bind (fun o => True.intro) h
theorem kd_field {v : Value} {i : Nat} : KD (field v i) := by
  unfold field
  refine KD.bind ?_ fun a => by split <;> exact True.intro
  unfold fieldsOf
  split
  · refine KD.bind (fun o => True.intro) fun o => ?_
    split <;> exact True.intro
  · exact True.intro
theorem dict_mapFields (f : Array Value → Array Value) (o : Obj) : (Obj.mapFields f o).dict = o.dict := by
  obtain ⟨c, d, dt, sl⟩ := o
  cases dt <;> rfl
theorem kd_setField {v x : Value} {i : Nat} : KD (setField v i x) := by
  unfold setField
  split
  · refine kd_load fun o => ?_
    split
    · exact KD.ite ⟨dict_mapFields _, True.intro⟩ True.intro
    · exact True.intro
  · exact True.intro
theorem kd_setFlight {e : Value} {f : Option Addr} : KD (setFlight e f) := by
  unfold setFlight
  exact KD.bind kd_field fun a => KD.ite kd_setField True.intro
theorem kd_passOn {α : Type} {what : String} {e : Value} {env : Env} : KD (PySem.passOn what e env : Sem α) := by
  unfold PySem.passOn
  exact KD.bind kd_field fun _ => KD.ite True.intro (KD.bind kd_setFlight fun _ => True.intro)
theorem kd_ready : ∀ (l : List Env), KD (readyFrames l)
  | [] => True.intro
  | env :: outer => by
    unfold readyFrames
    split
    · refine kd_load fun o => KD.ite True.intro (KD.bind ?_ fun im => KD.bind ?_ fun bk => KD.bind ⟨fun o => rfl, True.intro⟩ fun _ => kd_ready outer)
      · unfold behindIsImport
        exact KD.ite True.intro (KD.ite True.intro (KD.bind kd_field fun _ => True.intro))
      · unfold keptBack
        split
        · refine KD.ite True.intro ?_
          unfold underTheClaimsCaller
          exact KD.bind (KD.bind (fun a => True.intro) fun _ => True.intro) fun _ => True.intro
        · exact True.intro
    · exact True.intro
theorem kd_frameOf {env : Env} : KD (frameOf env) := by
  unfold frameOf
  refine KD.bind (KD.bind (fun _ => True.intro) fun _ => True.intro) fun l => KD.bind ?_ fun o => by split <;> exact True.intro
  unfold frameObject
  split
  · exact True.intro
  · exact KD.bind (kd_ready _) fun _ => True.intro
theorem kd_entryPlaceOf {f : Addr} {b : Bool} : KD (entryPlaceOf f b) := by
  unfold entryPlaceOf
  refine KD.bind (fun _ => True.intro) fun l => ?_
  split <;> exact True.intro
theorem kd_newEntry {a b c d e : Value} {l : List Value} : KD (EntryCells.newEntry a b c d e l) := by
  unfold EntryCells.newEntry newFields newObj
  show KD (if _ then _ else _)
  refine KD.ite ?_ ?_
  · exact True.intro
  · exact fun _ => True.intro
theorem kd_entry {e a : Value} {env : Env} {f : Addr} {b : Bool} {x : Value} : KD (do let u ← frameOf env; let v ← entryPlaceOf f b; let w ← EntryCells.newEntry a u .none x .none v; setField e 1 w) :=
  KD.bind kd_frameOf fun _ => KD.bind kd_entryPlaceOf fun _ => KD.bind kd_newEntry fun _ => kd_setField
theorem kd_noteFrame {e : Value} {env : Env} : KD (noteFrame e env) := by
  unfold noteFrame
  split
  · exact KD.bind kd_field fun a => KD.ite (KD.bind kd_field fun _ => KD.ite True.intro (KD.bind kd_setField fun _ => kd_entry)) kd_entry
  · exact True.intro
theorem kd_leaving {e : Value} {env : Env} : KD (leaving env e) := by
  unfold leaving
  exact KD.bind kd_noteFrame fun _ => kd_setFlight
noncomputable def Dx (o : Obj) (d : Option Addr) : Prop := ∀ a, d = some a → o.dict = some a
theorem Dx.none {o : Obj} : Dx o none := fun _ z => nomatch z
theorem Dx.dk {h h' : Heap} {b : Addr} {o o' : Obj} {d : Option Addr} (x : Dx o d) (e : h.get? b = some o) (e' : h'.get? b = some o') (k : DK h h') : Dx o' d := fun a z => (k.get e e').trans (x a z)
end L2
set_option Elab.async false
set_option linter.all false
set_option maxRecDepth 100000
set_option maxHeartbeats 2000000
namespace L2
open PySem PySem.Spec PyProof.Rows
theorem ObjOk.isThere {P : Program} {w : World} {H : Hp} {h : Heap} {a : Addr} {o : HO} (x : ObjOk P w H h a o) : ∃ ob, h.get? a = some ob := by
  cases o with
  | lst xs => obtain ⟨_, _, _, _, e⟩ := x; exact ⟨_, e⟩
  | tup xs => obtain ⟨_, _, _, ob, e, _⟩ := x; exact ⟨ob, e⟩
  | dK kvs => obtain ⟨_, _, _, _, ob, _, _, e, _⟩ := x; exact ⟨ob, e⟩
  | dT kvs => obtain ⟨_, _, _, _, ob, _, _, e, _⟩ := x; exact ⟨ob, e⟩
  | set S n => obtain ⟨ob, _, _, _, e, _⟩ := x; exact ⟨ob, e⟩
  | ins C dx fs => obtain ⟨_, _, _, e, _⟩ := x; exact ⟨_, e⟩
  | own y => exact x
  | xd fs => obtain ⟨_, ⟨ob, _, _, e, _⟩, _⟩ := x; exact ⟨ob, e⟩
  | rng lo hi => obtain ⟨_, _, _, e⟩ := x; exact ⟨_, e⟩
  | frz ob u => obtain ⟨e, _⟩ := x; exact ⟨_, e⟩
  | tbl ps => exact ⟨_, (show h.get? a = some _ from x)⟩
  | met f y => exact ⟨_, (show h.get? a = some _ from x)⟩
  | ext φ => obtain ⟨_, e, _⟩ := x; exact e
section
variable {X : Cx} {pins : List (Addr × Obj)} {σ : List (Option V)} {H H' : Hp} {s : Shared} {h' : Heap}
theorem Inv.step2 {g' : Array GenState} {t' : Nat} {d' : Drawn} {ch : List Addr} (I : Inv X pins σ H s)
    (hch : ∀ b ∈ ch, (b ∈ X.ex ∨ X.s₀.heap.get? b = none) ∧ b ≠ X.env.locals ∧ (∀ x c, X.env.cells.lookup x = some c → c ≠ b) ∧ ∀ p ∈ X.pn ++ pins, p.1 ≠ b)
    (keep : ∀ b o, b ≠ X.env.locals → b ∉ X.fs → b ∉ ch → s.heap.get? b = some o → H b = none → h'.get? b = some o)
    (slot : ∀ b o, b ≠ X.env.locals → b ∈ X.fs → b ∉ ch → s.heap.get? b = some o → H b = none → ∃ sl, h'.get? b = some { o with slots := sl }) (free : ∀ b o, b ∉ ch → s.heap.get? b = some o → H b = none → H' b = none)
    (there : ∀ b o, b ∉ ch → s.heap.get? b = some o → ∃ o', h'.get? b = some o')
    (tups : ∀ b xs, H b = some (.tup xs) → H' b = some (.tup xs)) (frzs : ∀ b o u, H b = some (.frz o u) → H' b = some (.frz o u)) (tbls : ∀ b ps, H b = some (.tbl ps) → ∃ more, H' b = some (.tbl (ps ++ more)))
    (ns : ∀ m, s.heap.Ns X.env.locals m → h'.Ns X.env.locals m) (hok : HOk X.prog X.w H' h') (hg : AllBare g') :
    Inv X pins σ H' { s with heap := h', gens := g', drawn := d', toks := t' } := by
  have neL : ∀ b o, X.s₀.heap.get? b = some o → b ≠ X.env.locals := fun b o e => Nat.ne_of_lt (Nat.lt_of_lt_of_le (Heap.lt_size e) I.ok.above)
  have neC : ∀ b o, X.s₀.heap.get? b = some o → b ∉ X.ex → b ∉ ch := fun b o e hx hb => by
    rcases (hch b hb).1 with z | z
    · exact hx z
    · rw [z] at e; cases e
  have cellK : ∀ x c, X.env.cells.lookup x = some c → ∀ v, s.heap.IsCell c v → h'.IsCell c v := fun x c e v ⟨o, ho, hd⟩ => by
    have nch : c ∉ ch := fun z => (hch c z).2.2.1 x c e rfl
    by_cases hc : c ∈ X.fs
    · obtain ⟨sl, q⟩ := slot c o (I.cne x c e) hc nch ho (I.freeC x c e)
      exact ⟨_, q, hd⟩
    · exact ⟨o, keep c o (I.cne x c e) hc nch ho (I.freeC x c e), hd⟩
  refine ⟨I.ok, I.os, hg, ⟨fun b o e n hb hx => ?_, fun b o e n hb hx => ?_, fun b o e n hx => ?_, fun b o e hx => ?_, fun b xs e => tups b xs (I.base.tups b xs e), fun b o xs e => frzs b o xs (I.base.frzs b o xs e), fun b ps e => ?_⟩, ?_, fun x c e => ?_, ?_, fun x c e => ?_, fun p hp => ?_, hok, I.len⟩
  · exact keep b o (neL b o e) hb (neC b o e hx) (I.base.keep b o e n hb hx) (I.base.free b o e n hx)
  · obtain ⟨sl, e1⟩ := I.base.slot b o e n hb hx
    obtain ⟨sl', e2⟩ := slot b _ (neL b o e) hb (neC b o e hx) e1 (I.base.free b o e n hx)
    exact ⟨sl', e2⟩
  · obtain ⟨o', e1⟩ := I.base.there b o e hx
    exact free b o' (neC b o e hx) e1 (I.base.free b o e n hx)
  · obtain ⟨o', e1⟩ := I.base.there b o e hx
    exact there b o' (neC b o e hx) e1
  · obtain ⟨m1, e1⟩ := I.base.tbls b ps e
    obtain ⟨m2, e2⟩ := tbls b _ e1
    exact ⟨m1 ++ m2, by rw [e2, Array.append_assoc]⟩
  · obtain ⟨m, hn, hl⟩ := I.loc
    refine ⟨m, ns m hn, fun i x v e1 e2 e3 => ?_⟩
    obtain ⟨u, r, l⟩ := hl i x v e1 e2 e3
    refine ⟨u, r, ?_⟩
    rcases l with l | ⟨k, c, e, z⟩
    · exact .inl l
    · exact .inr ⟨k, c, e, cellK x c e _ z⟩
  · obtain ⟨v, z⟩ := I.cell x c e
    exact ⟨v, cellK x c e v z⟩
  · obtain ⟨m, ⟨o, _, _, ho, _⟩, _⟩ := I.loc
    exact free _ o (fun z => (hch _ z).2.1 rfl) ho I.free
  · obtain ⟨v, o, ho, hd⟩ := I.cell x c e
    exact free c o (fun z => (hch c z).2.2.1 x c e rfl) ho (I.freeC x c e)
  · obtain ⟨e, n, ne, nf, d⟩ := I.pin p hp
    have nch : p.1 ∉ ch := fun z => (hch p.1 z).2.2.2 p hp rfl
    exact ⟨keep p.1 p.2 ne nf nch e n, free p.1 p.2 nch e n, ne, nf, d⟩
end
noncomputable def ExcAt (h₀ h : Heap) (H : Hp) (ea : Addr) (C : Value) (d : Option Addr) : Prop :=
  ∃ oe vs T oT ts a0, h.get? ea = some oe ∧ (oe.cls = C ∧ Dx oe d) ∧ vs[0]? = some a0 ∧ oe.data = .fields vs ∧ vs[1]? = some (.ref T) ∧ T ≠ ea ∧ h.get? T = some oT ∧ oT.data = .fields ts ∧ ts[3]? = some .none ∧
    H ea = none ∧ H T = none ∧ h₀.get? ea = none ∧ h₀.get? T = none
noncomputable def CX1 (P : Program) (w : World) : CXT := fun outer H s E e s' =>
  ∃ ea C d H', e = .ref ea ∧ s'.os = s.os ∧ AllBare s'.gens ∧ Un (frs outer) [] H H' s.heap s'.heap ∧ HOk P w H' s'.heap ∧ ExcAt s.heap s'.heap H' ea C d ∧ E C d H'
section
variable {P : Program} {w : World} {K : PySem.W.Frag} {mg : Str → Option Value} {base : Heap} {N : List Str} {qual : Str} {scope : Scope} {f : Addr} {cd : Value} {A : Around} {outer : List Env} {s s1 : Shared} {H H1 : Hp} {E : XK}
  {pins : List (Addr × Obj)} {σ : St} {hid : List Addr} {h' : Heap} {ea : Addr} {C a0 : Value} {d : Option Addr}
theorem left_cx (I : Inv (cxOf (CX1 P w) P w K mg base N qual scope f cd A outer s H E) pins σ H1 s1) (hf : ∀ b ∈ frs (cxOf (CX1 P w) P w K mg base N qual scope f cd A outer s H E).stack, b ∈ hid)
    (hh : ∀ b ∈ hid, b ∈ frs (cxOf (CX1 P w) P w K mg base N qual scope f cd A outer s H E).stack ∨ (s.heap.get? b = none ∧ H1 b = none))
    (st : (PySem.W.hideAll s1.heap hid).StaysIn h') (sm : s1.heap.UpToSlots h') (tr : h'.TracedW (PySem.W.hideAll s1.heap hid) ea C a0) (hea : ea ∈ hid ∨ s1.heap.get? ea = none) (dx : ∀ o, h'.get? ea = some o → Dx o d) (e : E C d H1) :
    CX1 P w outer H s E (.ref ea) { s1 with heap := h' } := by
  have old : ∀ b o, s.heap.get? b = some o → ∃ o', s1.heap.get? b = some o' := fun b o q => I.base.there b o q (fun z => nomatch z)
  have frS := fun b hb => (I.stack.mem (b := b) hb).2
  have keepB : ∀ b o, b ∉ hid → s1.heap.get? b = some o → h'.get? b = some o := fun b o hb q => st b o (PySem.W.hideAll_get hid q hb)
  have trk : ∀ b o, H1 b = some o → b ∉ hid := fun b o q hb => by
    rcases hh b hb with z | ⟨_, z⟩
    · rw [I.stkFree b z] at q; cases q
    · rw [z] at q; cases q
  have fr2 : ∀ b o, s.heap.get? b = some o → b ∈ hid → b ∈ frs outer := fun b o q hb => by
    rcases hh b hb with z | ⟨z, _⟩
    · rcases List.mem_cons.mp (I.stkSub b z) with y | y
      · exact absurd (Nat.lt_of_lt_of_le (Heap.lt_size q) I.ok.above) (by rw [y]; exact Nat.lt_irrefl _)
      · exact y
    · rw [z] at q; cases q
  have inStk : ∀ b, b ∈ frs outer → b ∈ frs (cxOf (CX1 P w) P w K mg base N qual scope f cd A outer s H E).stack := fun b hb => List.mem_cons_of_mem _ hb
  obtain ⟨oe, vs, T, oT, ts, he, ⟨hc, h0⟩, hd, h1, hnT, hne, hT, hdT, h3⟩ := tr
  have gone : ∀ b o', (PySem.W.hideAll s1.heap hid).get? b = none → s1.heap.get? b = some o' → b ∈ hid := fun b o' z q => by
    by_cases hb : b ∈ hid
    · exact hb
    · rw [PySem.W.hideAll_get hid q hb] at z; cases z
  have fields : ∀ b o ws, h'.get? b = some o → o.data = .fields ws → b ∈ frs (cxOf (CX1 P w) P w K mg base N qual scope f cd A outer s H E).stack → False := fun b o ws q d hb => by
    obtain ⟨ob, g1, g2⟩ := frS b hb
    obtain ⟨sl, g3⟩ := sm b ob g1 g2
    rw [q] at g3; cases g3; exact g2 ws d
  have hT0 : s.heap.get? T = none := by
    cases q : s.heap.get? T with
    | none => rfl
    | some o =>
      obtain ⟨o', q'⟩ := old T o q
      exact (fields T oT ts hT hdT (inStk _ (fr2 T o q (gone T o' hnT q')))).elim
  have hT1 : H1 T = none := by
    cases q : H1 T with
    | none => rfl
    | some o =>
      obtain ⟨o', q'⟩ := (I.hok T o q).isThere
      exact absurd (gone T o' hnT q') (trk T o q)
  have he0 : s.heap.get? ea = none := by
    cases q : s.heap.get? ea with
    | none => rfl
    | some o =>
      rcases hea with z | z
      · exact (fields ea oe vs he hd (inStk _ (fr2 ea o q z))).elim
      · obtain ⟨o', q'⟩ := old ea o q
        rw [z] at q'; cases q'
  have he1 : H1 ea = none := by
    cases q : H1 ea with
    | none => rfl
    | some o =>
      rcases hea with z | z
      · exact absurd z (trk ea o q)
      · obtain ⟨o', q'⟩ := (I.hok ea o q).isThere
        rw [z] at q'; cases q'
  refine ⟨ea, C, d, H1, rfl, I.os, I.bare, ⟨fun b o q n hb _ => ?_, fun b o q n hb _ => ?_, fun b o q n _ => ?_, fun b o q _ => ?_, I.base.tups, I.base.frzs, I.base.tbls⟩, fun b o q => ?_,
    ⟨oe, vs, T, oT, ts, a0, he, ⟨hc, dx oe he⟩, h0, hd, h1, hne, hT, hdT, h3, he1, hT1, he0, hT0⟩, e⟩
  · exact keepB b o (fun z => hb (fr2 b o q z)) (I.base.keep b o q n hb (fun z => nomatch z))
  · obtain ⟨sl, q1⟩ := I.base.slot b o q n hb (fun z => nomatch z)
    obtain ⟨ob, g1, g2⟩ := frS b (inStk b hb)
    rw [q1] at g1; cases g1
    obtain ⟨sl', q2⟩ := sm b _ q1 g2
    exact ⟨sl', q2⟩
  · exact I.base.free b o q n (fun z => nomatch z)
  · obtain ⟨o', q1⟩ := old b o q
    by_cases hb : b ∈ hid
    · obtain ⟨ob, g1, g2⟩ := frS b (inStk b (fr2 b o q hb))
      obtain ⟨sl, q2⟩ := sm b ob g1 g2
      exact ⟨_, q2⟩
    · exact ⟨o', keepB b o' hb q1⟩
  · refine (I.hok b o q).stay (fun c u hc q' => keepB c u ?_ q') (fun _ z => z) fun _ _ z => z
    rcases hc with z | z
    · rw [z]; exact trk b o q
    · exact trk c _ z
theorem passes1 : Passes (CX1 P w) (cxOf (CX1 P w) P w K mg base N qual scope f cd A outer s H E) E := by
  intro pins σ H1 s1 e s' I hx
  obtain ⟨ea, C, d, H', rfl, os, bare, un, hok, ⟨oe, vs, T, oT, ts, a0, he, ⟨hc, hx0⟩, h0, hd, h1, hne, hT, hdT, h3, n1, n2, g1, g2⟩, hE⟩ := hx
  have I' : Inv (cxOf (CX1 P w) P w K mg base N qual scope f cd A outer s H E) pins σ H' s' := I.call' (ch := []) os un hok bare (fun _ z => nomatch z)
  have nOld : ∀ b, s1.heap.get? b = none → s.heap.get? b = none := fun b z => by
    cases q : s.heap.get? b with
    | none => rfl
    | some o =>
      obtain ⟨o', q'⟩ := I.base.there b o q (fun z => nomatch z)
      rw [z] at q'; cases q'
  have hfr : ∀ b ∈ frs (cxOf (CX1 P w) P w K mg base N qual scope f cd A outer s H E).stack, b ∈ ea :: T :: frs (cxOf (CX1 P w) P w K mg base N qual scope f cd A outer s H E).stack := fun b hb => .tail _ (.tail _ hb)
  refine wpAny_dkQ kd_leaving (wpAny_leaves_onW (base := PySem.W.hideAll s'.heap (ea :: T :: frs (cxOf (CX1 P w) P w K mg base N qual scope f cd A outer s H E).stack)) (cls := C) (a0 := a0) I'.ok.frames rfl
    ⟨fun b o q => PySem.W.of_hideAll _ q, PySem.W.hideAll_none _ (.head _), PySem.W.funFrames_hide I'.stack (fun env he' b hb => hfr b (List.mem_filterMap.mpr ⟨env, he', hb⟩)),
      ⟨oe, vs, T, oT, ts, he, ⟨hc, h0⟩, hd, h1, PySem.W.hideAll_none _ (.tail _ (.head _)), hne, hT, hdT, h3⟩⟩ fun h' fl sm dk => ?_)
  refine left_cx I' hfr (fun b hb => ?_) fl.1 sm fl.2.2.2 (.inl (.head _)) (fun o e => hx0.dk he e dk) hE
  rcases List.mem_cons.mp hb with rfl | hb
  · exact .inr ⟨nOld _ g1, n1⟩
  · rcases List.mem_cons.mp hb with rfl | hb
    · exact .inr ⟨nOld _ g2, n2⟩
    · exact .inl hb
end
abbrev bmV : List Value := [.type "ValueError", .type "Exception", .type "BaseException", .type "object"]
theorem exc_obj {K : PySem.W.Frag} {h : Heap} {C : Addr} {bmB : List Value} {newId : String} (X : K.In h) (q : PySem.W.excIn K C bmB newId = true) :
    ∃ bm N nm qn bs hdct sn sub ab col dd k0 k1 k2 k3 k5 mN, h.get? C = some (excClassObj nm qn C N bs bm hdct sn sub ab col dd k0 k1 k2 k3 k5 newId) ∧ h.Ns N mN ∧ mN "__init__" = none ∧ OwnTail h bmB bm := by
  unfold PySem.W.excIn at q
  split at q
  next dd cd sl ho =>
    split at q
    next C' bm k0 k1 k2 k3 n k5 hm hs =>
      simp only [Bool.and_eq_true, beq_iff_eq, Bool.not_eq_true'] at q
      obtain ⟨⟨⟨⟨⟨e1, e2⟩, hdel⟩, ht⟩, hok⟩, hni⟩ := q
      subst e1; subst e2
      obtain ⟨nm, bs, mro, ns, qn, hd, sn, sub, ab, col, del⟩ := cd
      dsimp only at hm hdel hok hni
      subst hm hdel
      obtain rfl : sl = #[k0, k1, k2, k3, some (.builtin n), k5] := by
        cases sl with
        | mk l => exact congrArg Array.mk hs
      have hns : h.Ns ns (h.nsMap ns) := .of_isNs (PySem.W.isNs_of_in X hok)
      exact ⟨bm, ns, nm, qn, bs, hd, sn, sub, ab, col, dd, k0, k1, k2, k3, k5, _, X _ _ ho, hns, PySem.W.nsMap_none_of_in X hok hni, PySem.W.tail_of_in X ht⟩
    next => cases q
  next => cases q
section
variable {P : Program} {w : World} {K : PySem.W.Frag} {mg : Str → Option Value} {base : Heap} {N : List Str} {qual : Str} {scope : Scope} {f : Addr} {cd : Value} {A : Around} {outer : List Env} {s : Shared} {H : Hp} {E : XK}
theorem ps_raise {x : Str} {np cpos pos : Pos} {e₀ : Expr} {rest : List Expr} {t : TA} {C : Addr} (hq : PySem.W.excIn K C bmV "ValueError.__new__" = true) (hm : mg x = some (.ref C))
    (ha : PA (cxOf (CX1 P w) P w K mg base N qual scope f cd A outer s H E) (e₀ :: rest) t)
    (hg : Gl (cxOf (CX1 P w) P w K mg base N qual scope f cd A outer s H E) x := by rfl) (hdb : (x == ("__debug__" : Str)) = false := by decide)
    (he : starEach (e₀ :: rest) (cxOf (CX1 P w) P w K mg base N qual scope f cd A outer s H E).env = (false, eval e₀ (cxOf (CX1 P w) P w K mg base N qual scope f cd A outer s H E).env) :: starEach rest (cxOf (CX1 P w) P w K mg base N qual scope f cd A outer s H E).env := by rfl)
    (hpl : (backTo cpos (starEach rest (cxOf (CX1 P w) P w K mg base N qual scope f cd A outer s H E).env)).any (·.1) = false := by rfl) :
    PS (cxOf (CX1 P w) P w K mg base N qual scope f cd A outer s H E) (.Raise (some (.Call (.Name x np) (e₀ :: rest) [] cpos)) none pos) (fun _ σ H0 => t σ H0 fun vs H1 => vs.length ≤ sizeLine ∧ E (.ref C) none H1) := by
  intro pins s1 σ H0 D I h
  obtain ⟨tl, N', nm, q, bs, hdct, sn, sub, ab, col, dd, k0, k1, k2, k3, k5, mN, hC, hN, hni, T⟩ := exc_obj I.ok.mod.kin hq
  refine wpAny_Raise_call_subT (C := C) (nm := nm) (q := q) (N := N') (bs := bs) (bm := tl) (hdct := hdct) (sn := sn) (sub := sub) (ab := ab) (col := col) (dd := dd) (k0 := k0) (k1 := k1) (k2 := k2) (k3 := k3) (k5 := k5)
    PySem.F.excBase_ValueError (mN := mN) (T.hasType PySem.F.excBase_ValueError.hasBase) (I.ok.hd rfl) (by rw [he]; show (false || (backTo cpos (starEach rest _)).any (·.1)) = false; rw [hpl]; rfl) hni (ld_glob I hg hm ⟨rfl, ?_⟩ hdb)
  have hs := ha cpos pins s1 σ H0 _ I h
  rw [he] at hs ⊢
  refine Calls.evalArgs_plain (wpAny_mono hs (fun us s2 h2 => ?_) fun _ _ y => y)
  obtain ⟨vs, H2, I2, r, z, hE⟩ := h2
  refine ⟨rfl, by rw [← r.length]; exact z, I2.bk _ _ hC, hN.keeps I2.bk, T.keeps I2.bk, fun h' e hm' => ?_⟩
  have hin : ∀ env ∈ (cxOf (CX1 P w) P w K mg base N qual scope f cd A outer s H E).stack, ∀ b, env.frame = some b → b ∈ frs (cxOf (CX1 P w) P w K mg base N qual scope f cd A outer s H E).stack := fun env he b hb => List.mem_filterMap.mpr ⟨env, he, hb⟩
  exact wpAny_leaves_madeW (base := PySem.W.hideAll s2.heap (frs (cxOf (CX1 P w) P w K mg base N qual scope f cd A outer s H E).stack)) (h := s2.heap) I2.ok.frames rfl (fun b o q => PySem.W.of_hideAll _ q) (PySem.W.funFrames_hide I2.stack hin) hm'
    fun h'' t' fl _ _ sm => (left_cx (s1 := s2) (h' := h'') I2 (fun b hb => hb) (fun b hb => .inl hb) fl.1 ((Heap.UpToSlots.of_keeps hm'.keeps).trans sm) fl.2.2.2 (.inr hm'.new) (fun _ _ => Dx.none) hE : CX1 P w outer H s E (.ref e) { s2 with heap := h'' })
end
end L2
set_option Elab.async false
set_option linter.all false
set_option maxRecDepth 100000
set_option maxHeartbeats 2000000
namespace L2
open PySem PySem.Spec PyProof.Rows
noncomputable def Fly (X : Cx) (pins : List (Addr × Obj)) (H : Hp) (ea : Addr) (C : Value) (d : Option Addr) (h : Heap) : Prop :=
  ∃ oe vs T oT ts a0, h.get? ea = some oe ∧ (oe.cls = C ∧ Dx oe d) ∧ vs[0]? = some a0 ∧ oe.data = .fields vs ∧ vs[1]? = some (.ref T) ∧ T ≠ ea ∧ h.get? T = some oT ∧ oT.data = .fields ts ∧ ts[3]? = some .none ∧
    H ea = none ∧ H T = none ∧ ∀ b, b = ea ∨ b = T → X.s₀.heap.get? b = none ∧ b ≠ X.env.locals ∧ (∀ x c, X.env.cells.lookup x = some c → c ≠ b) ∧ ∀ p ∈ X.pn ++ pins, p.1 ≠ b
noncomputable abbrev XS := St → Value → Option Addr → Hp → Prop
noncomputable def XP (X : Cx) (pins : List (Addr × Obj)) (E : XS) (e : Value) (s' : Shared) : Prop := ∃ σ ea C d H', e = .ref ea ∧ Inv X pins σ H' s' ∧ Fly X pins H' ea C d s'.heap ∧ E σ C d H'
noncomputable abbrev TEx := St → Hp → VK → XK → Prop
noncomputable abbrev TSx := Ends → XS → St → Hp → Prop
noncomputable def PEx (X : Cx) (e : Expr) (t : TEx) : Prop :=
  ∀ (pins : List (Addr × Obj)) (s : Shared) (σ : St) (H : Hp) (Q : VK) (E : XS), Inv X pins σ H s → t σ H Q (fun C d H' => E σ C d H') → wpAny (model X.prog X.w) X.A (eval e X.env) (EP X pins σ Q) (XP X pins E) s
noncomputable def PSx (X : Cx) (st : Stmt) (t : TSx) : Prop :=
  ∀ (pins : List (Addr × Obj)) (s : Shared) (σ : St) (H : Hp) (D : Ends) (E : XS), Inv X pins σ H s → t D E σ H → wpAny (model X.prog X.w) X.A (exec st X.env) (SP X pins D) (XP X pins E) s
noncomputable def PSxs (X : Cx) (st : List Stmt) (t : TSx) : Prop :=
  ∀ (pins : List (Addr × Obj)) (s : Shared) (σ : St) (H : Hp) (D : Ends) (E : XS), Inv X pins σ H s → t D E σ H → wpAny (model X.prog X.w) X.A (execs st X.env) (SP X pins D) (XP X pins E) s
structure Own (X : Cx) : Prop where
  ex : X.ex = []
  stk : X.stack = X.env :: X.outer
  fr : X.env.frame = some X.env.locals
  calm : X.calm = true
section
variable {X : Cx} {pins : List (Addr × Obj)} {σ : St} {H : Hp} {s s' : Shared} {E : XK} {e : Value}
theorem Inv.unlike (O : Own X) (I : Inv X pins σ H s) {b : Addr} (z : s.heap.get? b = none) :
    X.s₀.heap.get? b = none ∧ b ≠ X.env.locals ∧ (∀ x c, X.env.cells.lookup x = some c → c ≠ b) ∧ ∀ p ∈ X.pn ++ pins, p.1 ≠ b := by
  refine ⟨?_, ?_, fun x c e y => ?_, fun p hp y => ?_⟩
  · cases q : X.s₀.heap.get? b with
    | none => rfl
    | some o =>
      obtain ⟨o', q'⟩ := I.base.there b o q (by rw [O.ex]; exact fun z => nomatch z)
      rw [z] at q'; cases q'
  · obtain ⟨m, ⟨o, _, _, ho, _⟩, _⟩ := I.loc
    rintro rfl
    rw [z] at ho; cases ho
  · obtain ⟨v, o, ho, _⟩ := I.cell x c e
    rw [y, z] at ho; cases ho
  · have := (I.pin p hp).1
    rw [y, z] at this; cases this
theorem fly_of (O : Own X) (I : Inv X pins σ H s) (hx : CX1 X.prog X.w X.stack H s E e s') : ∃ ea C d H', e = .ref ea ∧ Inv X pins σ H' s' ∧ Fly X pins H' ea C d s'.heap ∧ E C d H' := by
  obtain ⟨ea, C, d, H', rfl, os, bare, un, hok, ⟨oe, vs, T, oT, ts, a0, he, hc, h0, hd, h1, hne, hT, hdT, h3, n1, n2, g1, g2⟩, hE⟩ := hx
  refine ⟨ea, C, d, H', rfl, I.call' (ch := []) os un hok bare (fun _ z => nomatch z), ⟨oe, vs, T, oT, ts, a0, he, hc, h0, hd, h1, hne, hT, hdT, h3, n1, n2, fun b hb => ?_⟩, hE⟩
  rcases hb with rfl | rfl
  · exact I.unlike O g1
  · exact I.unlike O g2
theorem fly_on (O : Own X) (I : Inv X pins σ H s) {oe : Obj} {vs ts : Array Value} {T ea : Addr} {oT : Obj} {a0 C : Value} {h' : Heap}
    {d : Option Addr} (n1 : H ea = none) (n2 : H T = none) (hb : ∀ b, b = ea ∨ b = T → X.s₀.heap.get? b = none ∧ b ≠ X.env.locals ∧ (∀ x c, X.env.cells.lookup x = some c → c ≠ b) ∧ ∀ p ∈ X.pn ++ pins, p.1 ≠ b)
    (st : (PySem.W.hideAll s.heap (ea :: T :: frs X.stack)).StaysIn h') (sm : s.heap.UpToSlots h') (tr : h'.TracedW (PySem.W.hideAll s.heap (ea :: T :: frs X.stack)) ea C a0) (dx : ∀ o, h'.get? ea = some o → Dx o d) :
    Inv X pins σ H { s with heap := h' } ∧ Fly X pins H ea C d h' := by
  have frS := fun b hb => (I.stack.mem (b := b) hb).2
  have keepB : ∀ b o, b ∉ ea :: T :: frs X.stack → s.heap.get? b = some o → h'.get? b = some o := fun b o hb q => st b o (PySem.W.hideAll_get _ q hb)
  have trk : ∀ b o, H b = some o → b ∉ ea :: T :: frs X.stack := fun b o q hb => by
    rcases List.mem_cons.mp hb with rfl | hb
    · rw [n1] at q; cases q
    · rcases List.mem_cons.mp hb with rfl | hb
      · rw [n2] at q; cases q
      · rw [I.stkFree b hb] at q; cases q
  have nh : ∀ b, b ≠ X.env.locals → b ∉ X.fs → b ∉ [ea, T] → b ∉ ea :: T :: frs X.stack := fun b h1 h2 h3 hb => by
    rcases List.mem_cons.mp hb with rfl | hb
    · exact h3 (.head _)
    · rcases List.mem_cons.mp hb with rfl | hb
      · exact h3 (.tail _ (.head _))
      · rcases List.mem_cons.mp (I.stkSub b hb) with y | y
        · exact h1 y
        · exact h2 y
  have fsS : ∀ b, b ∈ X.fs → b ∈ frs X.stack := fun b hb => by
    rw [O.stk]; unfold frs; rw [List.filterMap_cons, O.fr]; exact .tail _ hb
  refine ⟨I.step2 (g' := s.gens) (d' := s.drawn) (t' := s.toks) (ch := [ea, T]) (fun b hc => ?_) (fun b o h1 h2 h3 q _ => keepB b o (nh b h1 h2 h3) q) (fun b o _ h2 _ q _ => ?_) (fun _ _ _ _ n => n) (fun b o h3 q => ?_)
    (fun _ _ z => z) (fun _ _ _ z => z) (fun b ps z => ⟨#[], by rw [z]; simp⟩) (fun m hm => sm.ns hm) (fun b o q => ?_) I.bare, ?_⟩
  · have hc' : b = ea ∨ b = T := by simpa using hc
    obtain ⟨y1, y2, y3, y4⟩ := hb b hc'
    exact ⟨.inr y1, y2, y3, y4⟩
  · obtain ⟨ob, g1, g2⟩ := frS b (fsS b h2)
    rw [q] at g1; cases g1
    exact sm b o q g2
  · by_cases hh : b ∈ ea :: T :: frs X.stack
    · rcases List.mem_cons.mp hh with rfl | hh
      · exact absurd (.head _) h3
      · rcases List.mem_cons.mp hh with rfl | hh
        · exact absurd (.tail _ (.head _)) h3
        · obtain ⟨ob, g1, g2⟩ := frS b hh
          obtain ⟨sl, q2⟩ := sm b ob g1 g2
          exact ⟨_, q2⟩
    · exact ⟨o, keepB b o hh q⟩
  · refine (I.hok b o q).stay (fun c u hc q' => keepB c u ?_ q') (fun _ z => z) fun _ _ z => z
    rcases hc with z | z
    · rw [z]; exact trk b o q
    · exact trk c _ z
  · obtain ⟨oe, vs, T', oT, ts, he, ⟨hc, h0⟩, hd, h1, hnT, hne, hT, hdT, h3⟩ := tr
    have gone : ∀ o', s.heap.get? T' = some o' → T' = T := fun o' q => by
      by_cases hh : T' ∈ ea :: T :: frs X.stack
      · rcases List.mem_cons.mp hh with y | hh
        · exact absurd y hne
        · rcases List.mem_cons.mp hh with y | hh
          · exact y
          · obtain ⟨ob, g1, g2⟩ := frS T' hh
            obtain ⟨sl, g3⟩ := sm T' ob g1 g2
            rw [hT] at g3; cases g3
            exact absurd hdT (g2 ts)
      · rw [PySem.W.hideAll_get _ q hh] at hnT; cases hnT
    have hT1 : H T' = none := by
      cases q : H T' with
      | none => rfl
      | some o =>
        obtain ⟨o', q'⟩ := (I.hok T' o q).isThere
        rw [gone o' q', n2] at q; cases q
    refine ⟨oe, vs, T', oT, ts, a0, he, ⟨hc, dx oe he⟩, h0, hd, h1, hne, hT, hdT, h3, n1, hT1, fun b hb' => ?_⟩
    rcases hb' with rfl | rfl
    · exact hb b (.inl rfl)
    · cases q : s.heap.get? b with
      | none => exact I.unlike O q
      | some o' => exact hb b (.inr (gone o' q))
theorem look_fly {Q : Unit → Shared → Prop} {E' : Value → Shared → Prop} {ea : Addr} {C : Value} {d : Option Addr} (O : Own X) (I : Inv X pins σ H s) (f : Fly X pins H ea C d s.heap)
    (h : ∀ h', Inv X pins σ H { s with heap := h' } → Fly X pins H ea C d h' → Q () { s with heap := h' }) :
    wpAny (model X.prog X.w) X.A (noteFrame (.ref ea) X.env) (fun _ s₂ => wpAny (model X.prog X.w) X.A (setFlight (.ref ea) none) Q E' s₂) E' s := by
  obtain ⟨oe, vs, T, oT, ts, a0, he, ⟨hc, hx0⟩, h0, hd, h1, hne, hT, hdT, h3, n1, n2, hb⟩ := f
  have hin : ∀ env ∈ X.stack, ∀ b, env.frame = some b → b ∈ ea :: T :: frs X.stack := fun env he' b hb' => .tail _ (.tail _ (List.mem_filterMap.mpr ⟨env, he', hb'⟩))
  have hfl : Heap.FlyingW (PySem.W.hideAll s.heap (ea :: T :: frs X.stack)) (X.env :: X.outer) ea C a0 s.heap := by
    rw [← O.stk]
    exact ⟨fun b o q => PySem.W.of_hideAll _ q, PySem.W.hideAll_none _ (.head _), PySem.W.funFrames_hide I.stack hin,
      ⟨oe, vs, T, oT, ts, he, ⟨hc, h0⟩, hd, h1, PySem.W.hideAll_none _ (.tail _ (.head _)), hne, hT, hdT, h3⟩⟩
  refine wpAny_dkQ kd_noteFrame (wpAny_looks_onW (by rw [← O.stk]; exact I.ok.frames) O.fr hfl fun h₄ hheld sm₄ dk1 => ?_)
  refine wpAny_dkQ kd_setFlight (wpAny_landsW hheld fun h₅ fl₅ sm₅ dk2 => ?_)
  obtain ⟨I₅, f₅⟩ := fly_on (oe := oe) (vs := vs) (ts := ts) (oT := oT) O I n1 n2 hb fl₅.1 (sm₄.trans sm₅) fl₅.2.2.2 (fun o e => hx0.dk he e (dk1.trans dk2))
  exact h h₅ I₅ f₅
theorem land_fly {Q : Unit → Shared → Prop} {A' : Around} {E' : Value → Shared → Prop} {ea : Addr} {C : Value} {d : Option Addr} (O : Own X) (I : Inv X pins σ H s) (f : Fly X pins H ea C d s.heap)
    (h : ∀ h', Inv X pins σ H { s with heap := h' } → Fly X pins H ea C d h' → Q () { s with heap := h' }) :
    wpAny (model X.prog X.w) A' (setFlight (.ref ea) none) Q E' s := by
  obtain ⟨oe, vs, T, oT, ts, a0, he, ⟨hc, hx0⟩, h0, hd, h1, hne, hT, hdT, h3, n1, n2, hb⟩ := f
  have hin : ∀ env ∈ X.stack, ∀ b, env.frame = some b → b ∈ ea :: T :: frs X.stack := fun env he' b hb' => .tail _ (.tail _ (List.mem_filterMap.mpr ⟨env, he', hb'⟩))
  have hfl : Heap.FlyingW (PySem.W.hideAll s.heap (ea :: T :: frs X.stack)) X.stack ea C a0 s.heap :=
    ⟨fun b o q => PySem.W.of_hideAll _ q, PySem.W.hideAll_none _ (.head _), PySem.W.funFrames_hide I.stack hin,
      ⟨oe, vs, T, oT, ts, he, ⟨hc, h0⟩, hd, h1, PySem.W.hideAll_none _ (.tail _ (.head _)), hne, hT, hdT, h3⟩⟩
  refine wpAny_dkQ kd_setFlight (lands_againW hfl fun h₅ fl₅ sm₅ dk2 => ?_)
  obtain ⟨I₅, f₅⟩ := fly_on (oe := oe) (vs := vs) (ts := ts) (oT := oT) O I n1 n2 hb fl₅.1 sm₅ fl₅.2.2.2 (fun o e => hx0.dk he e dk2)
  exact h h₅ I₅ f₅
end
noncomputable abbrev Cx.mark (X : Cx) (ea : Addr) : Cx := { X with A := X.A.mark (some (.ref ea)), calm := false }
section
variable {X : Cx} {pins : List (Addr × Obj)} {σ : St} {H : Hp} {s : Shared} {ea : Addr}
theorem Inv.mark (I : Inv X pins σ H s) (ea : Addr) : Inv (X.mark ea) pins σ H s :=
  ⟨⟨I.ok.mod, I.ok.kind, I.ok.glob, I.ok.blt, I.ok.above, I.ok.inj, I.ok.has, I.ok.cab, (fun z => nomatch z), I.ok.frames, I.ok.stk, I.ok.exf, I.ok.bs, I.ok.bsz, I.ok.noex, I.ok.exfs, I.ok.funs, I.ok.frf⟩,
    I.os, I.bare, I.base, I.loc, I.cell, I.free, I.freeC, I.pin, I.hok, I.len⟩
theorem Inv.unmark (ok : X.Ok) (I : Inv (X.mark ea) pins σ H s) : Inv X pins σ H s := ⟨ok, I.os, I.bare, I.base, I.loc, I.cell, I.free, I.freeC, I.pin, I.hok, I.len⟩
theorem SP.unmark {D : Ends} {f : Flow} (ok : X.Ok) (h : SP (X.mark ea) pins D f s) : SP X pins D f s := by
  cases f with
  | next => obtain ⟨σ', H', I', q⟩ := h; exact ⟨σ', H', I'.unmark ok, q⟩
  | brk => obtain ⟨σ', H', I', q⟩ := h; exact ⟨σ', H', I'.unmark ok, q⟩
  | cont => obtain ⟨σ', H', I', q⟩ := h; exact ⟨σ', H', I'.unmark ok, q⟩
  | ret u => obtain ⟨v, σ', H', I', r, q⟩ := h; exact ⟨v, σ', H', I'.unmark ok, r, q⟩
end
noncomputable abbrev TH := Value → Option Addr → TS
noncomputable def PH (X : Cx) (hs : List ExceptHandler) (t : TH) : Prop :=
  ∀ (pins : List (Addr × Obj)) (s : Shared) (σ : St) (H : Hp) (D : Ends) (ea : Addr) (C : Value) (d : Option Addr), Inv X pins σ H s → Fly X pins H ea C d s.heap → t C d D σ H → wpAny (model X.prog X.w) X.A (handleBy (.ref ea) X.env hs) (SP X pins D) X.xe s
noncomputable def hNil : TH := fun _ _ _ _ _ => False
section
variable {X : Cx}
theorem ph_nil : PH X [] hNil := fun _ _ _ _ _ _ _ _ _ _ h => h.elim
theorem psxs_one {st : Stmt} {t : TSx} (h1 : PSx X st t) : PSxs X [st] t := by
  intro pins s σ H D E I h
  refine wpAny_execs_cons (wpAny_mono (h1 pins s σ H D E I h) (fun f s1 q => ?_) fun _ _ z => z)
  cases f with
  | next => exact wpAny_execs_nil q
  | ret v => exact q
  | brk => exact q
  | cont => exact q
noncomputable def xSet (i : Nat) (te : TEx) : TSx := fun D E σ H => te σ H (fun v H1 => D.nx (σ.set i (some v)) H1) fun C d H1 => E σ C d H1
theorem psx_set {i : Nat} {x : Str} {e : Expr} {te : TEx} {pos pos' : Pos} (hN : X.N.Nodup) (hi : X.N[i]? = some x) (hx : Loc X.env.scope x) (he : PEx X e te) (hs : swapsWith e (some (.Name x pos')) pos.line X.env = pure false := by rfl)
    (hf : X.fn x = true ∨ X.env.scope.names.lookup x = some .local := by first | exact .inl rfl | exact .inr rfl | assumption) : PSx X (.Assign [.Name x pos'] e pos) (xSet i te) := by
  intro pins s σ H D E I h
  refine wpAny_Assign_Name (wpAny_mono (he pins s σ H _ E I h) (fun v s1 q => ?_) fun _ _ z => z) hs
  obtain ⟨y, H1, I1, r1, q1⟩ := q
  exact store_ok I1 hN hi hx r1 (fun s2 I2 => ⟨_, H1, I2, q1⟩) hf
noncomputable def tTry (tb : TSx) (th : TH) : TS := fun D σ H => tb D (fun σ' C d H' => th C d D σ' H') σ H
theorem ps_try {body : List Stmt} {h₀ : ExceptHandler} {hs : List ExceptHandler} {tb : TSx} {th : TH} {pos : Pos} (O : Own X) (hb : PSxs X body tb) (hh : PH X (h₀ :: hs) th) : PS X (.Try body (h₀ :: hs) [] [] pos) (tTry tb th) := by
  intro pins s σ H D I h
  refine wpAny_Try_except (wpAny_mono (hb pins s σ H D _ I h) (fun f s1 q => ?_) fun e s1 q => ?_)
  · cases f with
    | next => exact wpAny_execs_nil q
    | ret v => exact q
    | brk => exact q
    | cont => exact q
  · obtain ⟨σ', ea, C, d, H', rfl, I', f, q⟩ := q
    exact look_fly O I' f fun h' I'' f'' => hh pins _ σ' H' D ea C d I'' f'' q
theorem pex_call {k : Nat} {f : Addr} {fd : FuncData} {ps : List Str} {sp : Sp} {dvs : List V} {ds : List Value} {x : Str} {p pos : Pos} {e : Expr} {es : List Expr} {t : TA} (O : Own X) (F : FnOk X.prog X.w X.K X.mg X.base (CX1 X.prog X.w) k f fd ps sp) (hr : Room k X.A) (hg : Gl X x) (hm : X.mg x = some (.ref f)) (hk : PySem.W.keepIn X.K (.ref f) = true) (hb : Binds X.K fd ps ds) (hd : Vals dvs ds)
    (ha : PA X.nox (e :: es) t) (hdb : (x == ("__debug__" : Str)) = false := by decide) (he : starEach (e :: es) X.env = (false, eval e X.env) :: starEach es X.env := by rfl) (hpl : (backTo pos (starEach es X.env)).any (·.1) = false := by rfl) :
    PEx X (.Call (.Name x p) (e :: es) [] pos) (fun σ H Q E => t σ H fun vs H1 => sp (vs ++ dvs) H1 Q E) := by
  intro pins s σ H Q E I h
  refine wpAny_Call_Name_kw (ld_glob I hg hm ?_ hdb)
  refine PySem.W.callWith_K (h₀ := X.base) I.ok.mod.kin hk (wpAny_mono (ha pos pins s σ H _ (I.wish _) h) (fun us s1 q => ?_) fun _ _ z => z.elim) he hpl
  obtain ⟨vs, H1, I1, r, q⟩ := q
  have I1 := I1.unwish
  have r2 : Vals (vs ++ dvs) (us ++ ds) := r.append hd
  have hl : (us ++ ds).length = ps.length := by rw [← r2.length]; exact F.len _ _ _ _ q
  refine ⟨I1.kIn, wpAny_call (codeAny_mono (F.run X.A X.stack s1 H1 ⟨us, []⟩ (us ++ ds) (vs ++ dvs) Q _ hr I1.env0 (hb s1 us I1.kIn hl) r2 q) fun r s' hq => ?_)⟩
  cases r with
  | error e =>
    have hq' : CX1 X.prog X.w X.stack H1 s1 (fun C d H' => E σ C d H') e s' := hq
    obtain ⟨ea, C, d, H', e1, I', f', q'⟩ := fly_of O I1 hq'
    exact ⟨σ, ea, C, d, H', e1, I', f', q'⟩
  | ok fl =>
    cases fl with
    | ret u => exact I1.after hq
    | next => exact False.elim hq
    | brk => exact False.elim hq
    | cont => exact False.elim hq
end
section
variable {P : Program} {w : World} {K : PySem.W.Frag} {mg : Str → Option Value} {base : Heap}
theorem Fun.okX {x qual : Str} {st : Stmt} {f : Addr} {fd : FuncData} {N ps : List Str} {k : Nat} {sp : Sp} (F : Fun K x qual st f fd) (S : FnScope N ps (defScope st)) (len : ∀ vs H Q E, sp vs H Q E → vs.length = ps.length)
    (hbody : ∀ (cdv : Value) (A : Around) (outer : List Env) (s : Shared) (H : Hp) (vs : List V) (Q : VK) (E : XK), Room k (A.deeper (envOfC qual (defScope st) s.heap.objs.size f cdv)) → sp vs H Q E →
      ∃ t, PSs (cxOf (CX1 P w) P w K mg base N qual (defScope st) f cdv A outer s H E) (defBody st) t ∧ t { nx := fun _ H' => Q .non H', rt := Q } (start N vs) H) : FnOk P w K mg base (CX1 P w) (k + 1) f fd ps sp := by
  obtain ⟨oc, od, kV, doc, pm, an, cdv, ct, osl, rfl, lk, hcd⟩ := F.ex
  exact fn_of lk hcd S len fun A outer s H vs Q E hr hsp => hbody cdv A outer s H vs Q E hr hsp
theorem own_cx {N : List Str} {qual : Str} {scope : Scope} {f : Addr} {cd : Value} {A : Around} {outer : List Env} {s : Shared} {H : Hp} {E : XK} : Own (cxOf (CX1 P w) P w K mg base N qual scope f cd A outer s H E) := ⟨rfl, rfl, rfl, rfl⟩
theorem own_pass {N : List Str} {qual : Str} {scope : Scope} {f : Addr} {cd : Value} {A : Around} {outer : List Env} {s : Shared} {H : Hp} {E : XK} :
    PassesOwn (model P w) (cxOf (CX1 P w) P w K mg base N qual scope f cd A outer s H E).A (cxOf (CX1 P w) P w K mg base N qual scope f cd A outer s H E).env (cxOf (CX1 P w) P w K mg base N qual scope f cd A outer s H E).xe := PassesOwn.leaving
end
end L2
set_option Elab.async false
set_option linter.all false
set_option maxRecDepth 100000
set_option maxHeartbeats 2000000
namespace L2
open PySem PySem.Spec PyProof.Rows
noncomputable def clIn (env : Env) : List (Str × NameKind) → List (Str × Addr) → List (Str × Addr)
  | [], cs => cs
  | (n, k) :: r, cs => if k == .free then (match env.cells.lookup n with | some a => clIn env r ((n, a) :: cs) | none => clIn env r cs) else clIn env r cs
noncomputable abbrev clOf (scope : Scope) (env : Env) : List (Str × Addr) := clIn env scope.names []
theorem clIn_mem {env : Env} : ∀ {ns : List (Str × NameKind)} {cs : List (Str × Addr)}, (∀ n a, (n, a) ∈ cs → env.cells.lookup n = some a) → ∀ n a, (n, a) ∈ clIn env ns cs → env.cells.lookup n = some a
  | [], _, h => h
  | (m, k) :: r, cs, h => by
    unfold clIn
    split
    · split
      · rename_i a e
        exact clIn_mem fun n b hb => by
          rcases List.mem_cons.mp hb with z | z
          · cases z; exact e
          · exact h n b z
      · exact clIn_mem h
    · exact clIn_mem h
theorem clIn_sub {env : Env} : ∀ {ns : List (Str × NameKind)} {cs : List (Str × Addr)} {p : Str × Addr}, p ∈ cs → p ∈ clIn env ns cs
  | [], _, _, h => h
  | (m, k) :: r, cs, p, h => by
    unfold clIn
    split
    · split
      · exact clIn_sub (.tail _ h)
      · exact clIn_sub h
    · exact clIn_sub h
theorem clIn_has {env : Env} {n : Str} {a : Addr} (e : env.cells.lookup n = some a) : ∀ {ns : List (Str × NameKind)} {cs : List (Str × Addr)}, (n, NameKind.free) ∈ ns → (n, a) ∈ clIn env ns cs
  | (m, k) :: r, cs, h => by
    unfold clIn
    rcases List.mem_cons.mp h with z | z
    · cases z
      rw [if_pos (by rfl), e]
      exact clIn_sub (.head _)
    · split
      · split
        · exact clIn_has e z
        · exact clIn_has e z
      · exact clIn_has e z
theorem look_of_mem {α : Type} {n : Str} : ∀ {l : List (Str × α)} {a : α}, (n, a) ∈ l → ∃ b, l.lookup n = some b
  | (m, c) :: r, a, h => by
    cases e : (n == m) with
    | true => exact ⟨c, by rw [List.lookup_cons, e]⟩
    | false =>
      rcases List.mem_cons.mp h with z | z
      · cases z
        rw [beq_self_eq_true] at e; cases e
      · obtain ⟨b, hb⟩ := look_of_mem z
        exact ⟨b, by rw [List.lookup_cons, e]; exact hb⟩
theorem cl_look {scope : Scope} {env : Env} {n : Str} {c : Addr} (h : (clOf scope env).lookup n = some c) : env.cells.lookup n = some c :=
  clIn_mem (cs := []) (by intro _ _ z; cases z) n c (PySem.mem_of_lookup h)
theorem closure_eq {scope : Scope} {env : Env} (h : ∀ y ∈ scope.names, y.2 = .free → ∃ c, env.cells.lookup y.1 = some c) : closureFor scope env = pure (clOf scope env) := by
  have all : ∀ (ns : List (Str × NameKind)) (cs : List (Str × Addr)), (∀ y ∈ ns, y.2 = .free → ∃ c, env.cells.lookup y.1 = some c) →
      (forIn ns cs fun (x : Str × NameKind) (r : List (Str × Addr)) => (match x with | (name, kind) => if (kind == NameKind.free) = true then (do let c ← cellOf env name; pure (ForInStep.yield ((name, c) :: r))) else pure (ForInStep.yield r) : Sem (ForInStep (List (Str × Addr))))) = pure (clIn env ns cs) := by
    intro ns
    induction ns with
    | nil => intro cs _; rfl
    | cons y r ih =>
      intro cs h
      obtain ⟨n, k⟩ := y
      rw [List.forIn_cons]
      have hr : ∀ y ∈ r, y.2 = .free → ∃ c, env.cells.lookup y.1 = some c := fun y hy => h y (.tail _ hy)
      by_cases hk : (k == NameKind.free) = true
      · obtain ⟨c, hc⟩ := h (n, k) (.head _) (beq_iff_eq.mp hk)
        have hc' : env.cells.lookup n = some c := hc
        have e1 : cellOf env n = pure c := by unfold cellOf; rw [hc']
        simp only [hk, if_true, e1, pure_bind]
        rw [ih _ hr]
        conv => rhs; unfold clIn
        rw [if_pos hk, hc']
      · simp only [hk, if_false, pure_bind, Bool.false_eq_true]
        rw [ih _ hr]
        conv => rhs; unfold clIn
        rw [if_neg hk]
  have := all scope.names [] h
  unfold closureFor
  first
    | exact this
    | (simp only [bind_pure]; exact this)
    | simpa using this
noncomputable def Cx.comp (X : Cx) (scope : Scope) (C : Addr) (N' : List Str) (s : Shared) (H : Hp) (fp : List Addr) : Cx where
  prog := X.prog
  w := X.w
  K := X.K
  mg := X.mg
  base := X.base
  A := X.A
  N := N'
  s₀ := s
  H₀ := H
  env := compEnvC scope (clOf scope X.env) C X.env
  outer := X.stack
  stack := X.stack
  ex := fp
  fn := fun _ => false
  calm := X.calm
  pn := []
  xe := fun _ _ => False
noncomputable def seen (lv : Nat) (caps : List Nat) (σ : St) : St := List.replicate lv none ++ caps.map fun j => (σ[j]?).join
noncomputable def compW (J : It) (g : TG) (te : TE) (σ0 : St) (Q : VK) (H1 : Hp) : Prop := ∀ D, H1 D = none → ∃ W : Nat → Nat → List V → Hp → Prop, (∃ m, W 0 m [] (upd H1 D (.lst []))) ∧
  ∀ i m ys H, W i m ys H → H D = some (.lst ys) ∧ ys.length < sizeLine ∧ ((J.stop i H ∧ Q (.ref D) H) ∨ (J.go i H ∧ ∀ x H', J.yld i H x H' → g x σ0 H' fun σ2 H2 => te σ2 H2 fun v H3 => H3 D = some (.lst ys) ∧
    ∃ m', m' < m ∧ W (i + 1) m' (ys ++ [v]) (upd H3 D (.lst (ys ++ [v])))))
noncomputable def tComp (wi : TI) (g : TG) (te : TE) (lv : Nat) (caps : List Nat) : TE := fun σ H Q => wi σ H fun J H1 => compW J g te (seen lv caps σ) Q H1
structure CompOk (X : Cx) (scope : Scope) (lv : Nat) (caps : List Nat) (N' : List Str) : Prop where
  kind : scope.kind = .function
  cell : ∀ y ∈ scope.names, y.2 ≠ .cell
  free : ∀ y ∈ scope.names, y.2 = .free → X.env.kindOf y.1 = some .cell ∨ X.env.kindOf y.1 = some .free
  loc : ∀ y ∈ scope.names, y.2 = .local → scope.names.lookup y.1 = some .local
  len : N'.length = lv + caps.length
  cap : ∀ (p : Nat) (j : Nat), caps[p]? = some j → ∃ x, N'[lv + p]? = some x ∧ X.N[j]? = some x ∧ scope.names.lookup x = some .free
section
variable {X : Cx} {pins : List (Addr × Obj)} {σ : St} {H : Hp} {s : Shared}
theorem relabel_kind {scope : Scope} {env : Env} {x : Str} {k : NameKind} (h : (relabel scope env).names.lookup x = some k) (hc : ∀ y ∈ scope.names, y.2 ≠ .cell) (hk : k = .cell ∨ k = .free) : (x, NameKind.free) ∈ scope.names := by
  have hm := PySem.mem_of_lookup h
  obtain ⟨⟨n, k'⟩, h1, h2⟩ := List.mem_map.mp hm
  dsimp only at h2
  split at h2
  · rename_i hif
    cases h2
    have : k' = .free := by
      simp only [Bool.and_eq_true, beq_iff_eq] at hif
      exact hif.1.1
    subst this
    exact h1
  · cases h2
    rcases hk with rfl | rfl
    · exact absurd rfl (hc _ h1)
    · exact h1
theorem lookup_relabel_free {env : Env} : ∀ {names : List (Str × NameKind)} {x : Str}, names.lookup x = some .free →
    (names.map fun (n, k) => if (k == NameKind.free && env.scope.kind == .function && env.kindOf n == some .cell) then (n, NameKind.cell) else (n, k)).lookup x = some .free ∨
    (names.map fun (n, k) => if (k == NameKind.free && env.scope.kind == .function && env.kindOf n == some .cell) then (n, NameKind.cell) else (n, k)).lookup x = some .cell
  | [], _, h => by simp at h
  | (n, k) :: r, x, h => by
    have ih := @lookup_relabel_free env r x
    rw [List.map_cons]
    dsimp only
    cases e : (x == n) with
    | true =>
      rw [List.lookup_cons, e] at h
      have hk : k = .free := Option.some.inj h
      subst hk
      split
      · exact .inr (by rw [List.lookup_cons, e])
      · exact .inl (by rw [List.lookup_cons, e])
    | false =>
      rw [List.lookup_cons, e] at h
      split
      · rw [List.lookup_cons, e]; exact ih h
      · rw [List.lookup_cons, e]; exact ih h
theorem inv_comp {scope : Scope} {lv : Nat} {caps : List Nat} {N' : List Str} {fp : List Addr} {h₁ : Heap} (ok : CompOk X scope lv caps N') (I : Inv X pins σ H s) (hf : ∀ b ∈ fp, FpOk X pins H b)
    (hns : h₁.Ns s.heap.objs.size fun _ => none) (hk : ∀ b o, s.heap.get? b = some o → h₁.get? b = some o) (hfp : ∀ b ∈ fp, b < s.heap.objs.size) (t' : Nat) :
    Inv (X.comp scope s.heap.objs.size N' s H fp) [] (seen lv caps σ) H { s with heap := h₁, toks := t' } := by
  have ne : ∀ {b : Addr} {o : Obj}, s.heap.get? b = some o → b ≠ s.heap.objs.size := fun e => Nat.ne_of_lt (Heap.lt_size e)
  refine ⟨⟨I.ok.mod, ok.kind, I.ok.glob, I.ok.blt, Nat.le_refl _, fun x y c h1 h2 => I.ok.inj x y c (cl_look h1) (cl_look h2), fun x hx => ?_, (fun x c h => nomatch h), I.ok.hd, I.ok.frames, .inl rfl, fun b hb => ⟨Nat.ne_of_lt (hfp b hb), fun x c e => (hf b hb).2.2.2.2.1 x c (cl_look e)⟩,
    I.bs, Nat.le_trans I.ok.bsz I.sz, fun b o e hb => ?_, fun b hb hfs => ?_, I.stack, I.stkFree⟩, rfl, I.bare, Un.kept hk, ⟨_, hns, fun i x v h1 h2 h3 => ?_⟩, fun x c e => ?_, I.fresh, fun x c e => I.freeC x c (cl_look e), fun p hp => absurd (show p ∈ ([] : List (Addr × Obj)) from hp) (by simp), I.hok.kept hk, ?_⟩
  · have hm : (x, NameKind.free) ∈ scope.names := by
      rcases hx with hx | hx
      · exact relabel_kind hx ok.cell (.inl rfl)
      · exact relabel_kind hx ok.cell (.inr rfl)
    obtain ⟨c, hc⟩ := I.ok.has x (ok.free _ hm rfl)
    exact look_of_mem (clIn_has hc hm)
  · rcases (hf b hb).2.2.2.1 with z | z
    · exact I.ok.noex b o e z
    · exact absurd (Nat.lt_of_lt_of_le (Heap.lt_size (I.ok.bs b o e).1) z) (Nat.lt_irrefl _)
  · rcases List.mem_cons.mp (I.stkSub b hfs) with z | z
    · exact (hf b hb).2.1 z
    · exact (hf b hb).2.2.1 z
  · unfold seen at h2
    rcases Nat.lt_or_ge i lv with hi | hi
    · rw [List.getElem?_append_left (by simpa using hi), List.getElem?_replicate_of_lt hi] at h2
      cases h2
    · rw [List.getElem?_append_right (by simpa using hi), List.length_replicate, List.getElem?_map] at h2
      cases hj : caps[i - lv]? with
      | none => rw [hj] at h2; cases h2
      | some j =>
        rw [hj] at h2
        have h2' : (σ[j]?).join = some v := Option.some.inj h2
        obtain ⟨x', e1, e2, e3⟩ := ok.cap (i - lv) j hj
        rw [show lv + (i - lv) = i by omega] at e1
        have h1' : N'[i]? = some x := h1
        rw [h1'] at e1; cases e1
        have hσ : σ[j]? = some (some v) := by
          cases q : σ[j]? with
          | none => rw [q] at h2'; cases h2'
          | some o => rw [q] at h2'; cases o with
            | none => cases h2'
            | some v' => have : some v' = some v := h2'; cases this; rfl
        have hk' := ok.free (x, .free) (PySem.mem_of_lookup e3) rfl
        obtain ⟨m, _, hl⟩ := I.loc
        have hv : Vis X.env.scope x := by rcases hk' with z | z; exact .inr (.inl z); exact .inr (.inr z)
        obtain ⟨u, r, l⟩ := hl j x v e2 hσ hv
        refine ⟨u, r, .inr ⟨?_, ?_⟩⟩
        · exact (lookup_relabel_free (env := X.env) e3).symm
        · rcases l with ⟨k, _⟩ | ⟨k, c, e, o, ho, hd⟩
          · rcases hk' with z | z
            · rw [k] at z; cases z
            · rw [k] at z; cases z
          · obtain ⟨c', hc'⟩ := look_of_mem (clIn_has (cs := []) e (PySem.mem_of_lookup e3))
            have := cl_look (scope := scope) (env := X.env) hc'
            rw [e] at this; cases this
            exact ⟨c, hc', o, hk c o ho, hd⟩
  · obtain ⟨v, o, ho, hd⟩ := I.cell x c (cl_look e)
    exact ⟨v, o, hk c o ho, hd⟩
  · show (seen lv caps σ).length = N'.length
    unfold seen
    rw [List.length_append, List.length_replicate, List.length_map, ok.len]
noncomputable def Stays (σ σ2 : St) : Prop := ∀ (j : Nat) v, σ[j]? = some (some v) → σ2[j]? = some (some v)
noncomputable def GKeep (g : TG) (lv : Nat) (caps : List Nat) : Prop := ∀ (σ : St) (y : V) (H' : Hp) (Q : St → Hp → Prop), g y (seen lv caps σ) H' Q → g y (seen lv caps σ) H' fun σ2 H2 => Q σ2 H2 ∧ Stays (seen lv caps σ) σ2
theorem stays_set {lv : Nat} {caps : List Nat} {σ σ2 : St} {i : Nat} {y : V} (hi : i < lv) (h : Stays (seen lv caps σ) σ2) : Stays (seen lv caps σ) (σ2.set i (some y)) := by
  intro j v e
  by_cases hj : i = j
  · subst hj
    unfold seen at e
    rw [List.getElem?_append_left (by simpa using hi), List.getElem?_replicate_of_lt hi] at e
    cases e
  · rw [List.getElem?_set_ne hj]
    exact h j v e
theorem keep_name {i lv : Nat} {caps : List Nat} (hi : i < lv) : GKeep (gName i) lv caps := fun _ _ _ _ q => ⟨q, stays_set hi fun _ _ e => e⟩
theorem keep_two {K : PySem.W.Frag} {i k lv n : Nat} {caps : List Nat} (hi : i < lv) (hk : k < lv) : GKeep (gTup K n (gCons (gName i) (gCons (gName k) gNil))) lv caps := by
  rintro σ y H' Q ⟨a, xs, e1, hq, hl, v, r, e2, v', r', e3, e4, q⟩
  exact ⟨a, xs, e1, hq, hl, v, r, e2, v', r', e3, e4, q, stays_set hk (stays_set hi fun _ _ e => e)⟩
theorem compLoop_any {prog : Program} {w : World} {A : Around} {s : Shared} {elt tg iter : Expr} {scope : Scope} {pos : Pos} {it acc : Value} {env : Env} {R : Result → Shared → Prop} (J : Nat → Shared → Prop)
    (turn : ∀ n s, J n s → wpAny (model prog w) A (pyNext it) (fun r s1 => match r with
      | none => R (.ok .next) s1
      | some v => wpAny (model prog w) A (letOwnedTupleGo tg it v) (fun _ s2 => wpAny (model prog w) A (assign tg env v) (fun _ s3 => wpAny (model prog w) A (eval elt env) (fun x s4 =>
          wpAny (model prog w) A (call (.builtin "list.append") [acc, x]) (fun _ s5 => ∃ m, m < n ∧ J m s5) (notedBy (model prog w) A env fun e s' => R (.error e) s') s4) (notedBy (model prog w) A env fun e s' => R (.error e) s') s3)
          (notedBy (model prog w) A env fun e s' => R (.error e) s') s2) (notedBy (model prog w) A env fun e s' => R (.error e) s') s1) (notedBy (model prog w) A env fun e s' => R (.error e) s') s)
    (n : Nat) (h : J n s) : codeAny (model prog w) A (.compLoop (.ListComp elt [⟨tg, iter, [], 0⟩] scope pos) 0 it acc env) R s := by
  refine codeAny_loop rfl J (fun n s hJ => ?_) n h
  show wpAny _ A ((compTurn (.ListComp elt [⟨tg, iter, [], 0⟩] scope pos) 0 it acc env).onRaise (fun x => do noteFrame x env; theTreesLotGoes x)) _ _ s
  refine wpAny_noted ?_; rw [compTurn_list]
  refine wpAny_bind (wpAny_standAt (wpAny_bind (wpAny_mono (turn n s hJ) (fun r s1 h1 => ?_) fun _ _ z => z)))
  match r, h1 with
  | none, h1 => exact wpAny_pure h1
  | some v, h1 =>
    refine wpAny_bind (wpAny_mono h1 (fun _ s2 h2 => ?_) fun _ _ z => z)
    refine wpAny_bind (wpAny_mono h2 (fun _ s3 h3 => wpAny_bind (wpAny_mono (wpAny_tests_nil (Q := fun ok q => ok = true ∧ q = s3) ⟨rfl, rfl⟩) (fun ok q hq => ?_) fun _ _ z => z)) fun _ _ z => z)
    obtain ⟨e1, e2⟩ := hq
    subst e1 e2
    exact wpAny_bind (wpAny_bind (wpAny_mono h3 (fun x s4 h4 => wpAny_bind (wpAny_mono h4 (fun _ s5 h5 => wpAny_pure (wpAny_pure ⟨rfl, h5⟩)) fun _ _ z => z)) fun _ _ z => z))
theorem comp_loop {elt iter : Expr} {tg : Expr} {pos : Pos} {scope : Scope} {g : TG} {te : TE} {lv : Nat} {caps : List Nat} {N' : List Str} {fp : List Addr} {it D C : Addr} {tn : Nat → Heap → Prop} {J : It} {H3 : Hp} {s3 s4 : Shared} {Q : VK} {W : Nat → Nat → List V → Hp → Prop} {m0 : Nat}
    (hc : X.calm = true) (T : Turn X.prog X.w X.K tg J fp it tn) (hC : s3.heap.objs.size ≤ C) (I3 : Inv X pins σ H3 s3) (f3 : ∀ b ∈ fp, FpOk X pins H3 b) (hCf : ∀ b ∈ fp, b ≠ C) (I4 : Inv (X.comp scope C N' s3 H3 fp) [] (seen lv caps σ) H3 s4) (st4 : tn 0 s4.heap) (w0 : W 0 m0 [] H3)
    (turn : ∀ i m ys H, W i m ys H → H D = some (.lst ys) ∧ ys.length < sizeLine ∧ ((J.stop i H ∧ Q (.ref D) H) ∨ (J.go i H ∧ ∀ x H', J.yld i H x H' → g x (seen lv caps σ) H' fun σ2 H2 => te σ2 H2 fun v H3 => H3 D = some (.lst ys) ∧
      ∃ m', m' < m ∧ W (i + 1) m' (ys ++ [v]) (upd H3 D (.lst (ys ++ [v]))))))
    (hgk : GKeep g lv caps) (hg : PG (X.comp scope C N' s3 H3 fp) tg g) (he : PE (X.comp scope C N' s3 H3 fp) elt te) :
    codeAny (model X.prog X.w) X.A (.compLoop (.ListComp elt [⟨tg, iter, [], 0⟩] scope pos) 0 (.ref it) (.ref D) (compEnvC scope (clOf scope X.env) C X.env))
      (compPost (model X.prog X.w) X.A X.xe none (EP X pins σ Q) (.ref D) C) s4 := by
  have stat : ∀ {H' : Hp}, (∀ b ∈ fp, H' b = none) → ∀ b ∈ fp, FpOk (X.comp scope C N' s3 H3 fp) [] H' b := fun {H'} hn b hb =>
    ⟨hn b hb, hCf b hb, fun z => I4.ok.exfs b hb z, .inl hb, fun y c e => (I4.ok.exf b hb).2 y c e, fun p hp => absurd (show p ∈ ([] : List (Addr × Obj)) from hp) (by simp)⟩
  refine compLoop_any (fun n s' => ∃ i ys H', Inv (X.comp scope C N' s3 H3 fp) [] (seen lv caps σ) H' s' ∧ tn i s'.heap ∧ (∀ b ∈ fp, H' b = none) ∧ W i n ys H') ?_ m0 ⟨0, [], _, I4, st4, fun b hb => (f3 b hb).1, w0⟩
  rintro n s5 ⟨i, ys, H5, I5, st5, fr5, w5⟩
  obtain ⟨hD, hlen, hcase⟩ := turn i n ys H5 w5
  rcases hcase with ⟨stop, q⟩ | ⟨go, step⟩
  · refine thn (T.done (X.comp scope C N' s3 H3 fp) rfl rfl rfl hc i [] s5 _ H5 _ I5 (stat fr5) st5 stop) fun r s6 hr => ?_
    obtain ⟨hr, I6⟩ := hr
    subst hr
    obtain ⟨m, hn, _⟩ := I6.loc
    refine ⟨m, hn, fun h' hs' => ?_⟩
    have ub := I6.base
    have neC : ∀ b o, s3.heap.get? b = some o → b ≠ C := fun b o q => Nat.ne_of_lt (Nat.lt_of_lt_of_le (Heap.lt_size q) hC)
    refine ⟨.ref D, H5, I3.call' (ch := fp) (s' := { s6 with heap := h' }) I6.os ⟨fun b o q n hb hx => (hs'.2 b (neC b o q)).trans (ub.keep b o q n hb hx), fun b o q n hb hx => ?_, ub.free, fun b o q hx => ?_, ub.tups, ub.frzs, ub.tbls⟩ ?_ I6.bare (fun b hb => ?_), rfl, q⟩
    · obtain ⟨sl, e⟩ := ub.slot b o q n hb hx
      exact ⟨sl, (hs'.2 b (neC b o q)).trans e⟩
    · obtain ⟨o', e⟩ := ub.there b o q hx
      exact ⟨o', (hs'.2 b (neC b o q)).trans e⟩
    · intro b o q
      refine (I6.hok b o q).stay (fun c u hc' q' => (hs'.2 c ?_).trans q') (fun _ z => z) fun _ _ z => z
      intro ec
      have fC : H5 C = none := I6.free
      rcases hc' with z | z
      · rw [← z, ec, fC] at q; cases q
      · rw [ec, fC] at z; cases z
    · obtain ⟨_, y1, _, y3, y4, y5⟩ := f3 b hb
      exact ⟨y3, y1, y4, y5⟩
  · refine thn (T.item (X.comp scope C N' s3 H3 fp) rfl rfl rfl hc i [] s5 _ H5 _ I5 (stat fr5) st5 go) fun r s6 hr => ?_
    obtain ⟨u, hr, h6⟩ := hr
    subst hr
    refine thn h6 fun _ s7 h7 => ?_
    obtain ⟨y, H7, I7, r7, y7, st7, fr7⟩ := h7
    have I7' := I7.pinned (stat fr7) (T.obj _ _ st7)
    refine wpAny_mono (hg _ s7 _ H7 y u _ I7' r7 (hgk σ y H7 _ (step y H7 y7))) (fun _ s8 h8 => ?_) (fun _ _ z => z.elim)
    obtain ⟨σ8, H8, I8, q8, ks⟩ := h8
    refine wpAny_mono (he _ s8 σ8 H8 _ I8 q8) (fun v s9 h9 => ?_) (fun _ _ z => z.elim)
    obtain ⟨z9, H9, I9, r9, hD9, m', hm', w9⟩ := h9
    refine wpAny_mono (mt_append (X := X.comp scope C N' s3 H3 fp) _ s9 σ8 H9 (.ref D) [z9] (.ref D) [v] (fun _ H' => H' = upd H9 D (.lst (ys ++ [z9]))) I9 rfl (.cons r9 .nil) ⟨D, ys, z9, rfl, rfl, hD9, hlen, rfl⟩) (fun _ s10 h10 => ?_) (fun _ _ z => z.elim)
    obtain ⟨_, H10, I10, _, rfl⟩ := h10
    refine ⟨m', hm', i + 1, ys ++ [z9], _, I10.unpinned.weak ?_ ?_, T.keep _ _ _ st7 fun b hb o e => (I10.pin (b, o) (List.mem_append_right _ (List.mem_append_right _ (mem_pinsAt hb e)))).1, fun b hb => ?_, w9⟩
    · rw [I10.len]; exact I4.len
    · exact ks
    · obtain ⟨o, e, d⟩ := T.obj _ _ st7 b hb
      exact (I10.pin (b, o) (List.mem_append_right _ (List.mem_append_right _ (mem_pinsAt hb e)))).2.1
theorem pe_comp {elt iter : Expr} {tg : Expr} {pos : Pos} {scope : Scope} {wi : TI} {g : TG} {te : TE} {lv : Nat} {caps : List Nat} {N' : List Str} (hc : X.calm = true) (ok : CompOk X scope lv caps N') (hgk : GKeep g lv caps) (hi : PI X tg iter wi)
    (hg : ∀ C s H fp, PG (X.comp scope C N' s H fp) tg g) (he : ∀ C s H fp, PE (X.comp scope C N' s H fp) elt te) (hs : ∀ y, foldedSetIterable iter X.env y = pure y := by intro _; rfl) :
    PE X (.ListComp elt [⟨tg, iter, [], 0⟩] scope pos) (tComp wi g te lv caps) := by
  intro pins s σ H Q I h
  rw [eval_ListComp]
  refine wpAny_comprehension_free (use := none) rfl hs (closure_eq fun y hy hk => I.ok.has y.1 (ok.free y hy hk)) ok.kind ok.loc (thn (hi pins s σ H _ I h) fun v s1 h1 => thn h1 fun itv s2 h2 => ?_)
  obtain ⟨it, fp, tn, J, H2, e, I2, T, st2, f2, hW⟩ := h2
  subst e
  have fpl : ∀ b ∈ fp, b < s2.heap.objs.size := fun b hb => by obtain ⟨o, e, _⟩ := T.obj 0 _ st2 b hb; exact Heap.lt_size e
  refine wpAny_newObj_type ?_
  have I3 : Inv X pins σ (upd H2 s2.heap.objs.size (.lst [])) { s2 with heap := s2.heap.push { cls := .type "list", data := .seq ([] : List Value).toArray }, toks := s2.toks } := I2.lnew (its := []) .nil (Nat.zero_le _)
  obtain ⟨W, ⟨m0, w0⟩, turn⟩ := hW s2.heap.objs.size I2.fresh
  refine wpAny_newFunctionEnv ok.cell (by intro y hy; simp at hy) (fun h₁ hns₁ hsb₁ => ?_) ok.kind
  have hk3 : ∀ b o, (s2.heap.push { cls := .type "list", data := .seq ([] : List Value).toArray }).get? b = some o → h₁.get? b = some o := fun b o q =>
    (hsb₁.2 b (Nat.ne_of_lt (Heap.lt_size q))).trans (Heap.get?_push_of_some _ q)
  have f3 : ∀ b ∈ fp, FpOk X pins (upd H2 s2.heap.objs.size (.lst [])) b := fun b hb => by
    obtain ⟨n, r⟩ := f2 b hb
    exact ⟨by rw [upd_ne (Nat.ne_of_lt (fpl b hb))]; exact n, r⟩
  have fpl3 : ∀ b ∈ fp, b < (s2.heap.push { cls := .type "list", data := .seq ([] : List Value).toArray }).objs.size := fun b hb => by rw [Heap.size_push]; exact Nat.lt_succ_of_lt (fpl b hb)
  have I4 := inv_comp ok I3 f3 hns₁ hk3 fpl3 (s2.toks + 0)
  have st4 : tn 0 h₁ := T.keep _ _ _ st2 fun b hb o q => hk3 b o (Heap.get?_push_of_some _ q)
  have loop := comp_loop (elt := elt) (iter := iter) (pos := pos) (s4 := { s2 with heap := h₁, toks := s2.toks + 0 }) hc T (Nat.le_refl _) I3 f3 (fun b hb => Nat.ne_of_lt (fpl3 b hb)) I4 st4 w0 turn hgk (hg _ _ _ _) (he _ _ _ _)
  exact codeAny_compStart_list loop (T.self _ 0 _ _ _ st4 loop)
end
end L2
set_option Elab.async false
set_option linter.all false
set_option maxRecDepth 100000
set_option maxHeartbeats 2000000
namespace L2
open PySem PySem.Spec PyProof.Rows
section
variable {X : Cx}
inductive rIsi (K : PySem.W.Frag) (xs : List V) (H : Hp) (Q : VK) : Prop
  | mk (x : V) (t : Value) (c : String) (b : Bool) (e : xs = [x, .ty c]) (ty : TyOf K H x t) (k : PySem.W.kitOne K t (.type c) = some b) (q : Q (.bl b) H) : rIsi K xs H Q
theorem call_isi : CallR X (.builtin "isinstance") (rIsi X.K) := by
  intro pins s σ H xs us Q I r h
  obtain ⟨x, t, c, b, rfl, ty, e, q⟩ := h
  obtain ⟨u, v, rfl, rx, rc⟩ := vals2 r
  cases rc
  exact isinst_ok I rx ty e fun tk => ⟨.bl b, H, I.tok _, rfl, q⟩
theorem call_sorted : CallR X (.builtin "sorted") (fun xs H Q => ∃ p, ∃ ns : List Int, xs = [.ref p] ∧ SqL X.K H p (ns.map V.int) ∧ ns.length < 64 ∧
    ∀ l (ns' : List Int), H l = none → ns'.Perm ns → ns'.Pairwise (· ≤ ·) → Q (.ref l) (upd H l (.lst (ns'.map V.int)))) := by
  intro pins s σ H xs us Q I r h
  obtain ⟨p, ns, rfl, hq, h64, q⟩ := h
  obtain ⟨u, rfl, rx⟩ := vals1 r
  cases rx
  obtain ⟨its, rv, pl, hz⟩ := I.list hq
  have hI := intsAre_of rv
  have hlen : its.length = ns.length := by rw [← rv.length, List.length_map]
  refine sorted_ints pl.isList hI (by omega) fun out ns' a1 a2 a3 => ?_
  obtain ⟨e, he⟩ := sortedAll_at s.heap its out
  have hl : s.heap.objs.size ≤ s.heap.objs.size + 1 := Nat.le_succ _
  refine ⟨.ref (s.heap.objs.size + 1), _, I.laid (t' := s.toks) (o := .lst (ns'.map V.int)) (fun b o z => sortedAll_old z) hl ?_, rfl, q _ ns' (I.hok.fresh hl) a2 a3⟩
  have e2 : out = out.toList.toArray := by simp
  refine ⟨?_, out.toList, e, vals_ints a1, by rw [← e2]; exact he⟩
  rw [List.length_map, a2.length_eq, ← hlen]
  have := line63
  have h2 : (64 : Nat) ≤ sizeLine := by decide
  omega
theorem call_all (hc : X.calm = true) : CallR X (.builtin "all") (fun xs H Q => ∃ p, ∃ bs : List Bool, xs = [.ref p] ∧ SqL X.K H p (bs.map V.bl) ∧ Q (.bl (bs.all id)) H) := by
  intro pins s σ H xs us Q I r h
  obtain ⟨p, bs, rfl, hq, q⟩ := h
  obtain ⟨u, rfl, rx⟩ := vals1 r
  cases rx
  obtain ⟨its, rv, pl, hz⟩ := I.list hq
  have hl := pl.isList
  have hlt : p < s.heap.objs.size := by obtain ⟨_, e, _⟩ := id hl; exact Heap.lt_size e
  have htr : TruthOf X.prog X.w X.A.in1 (fun i v => its.toArray[i]? = some v) (fun i => (bs[i]?).getD true) := by
    intro i v s' Q' E' hv hQ
    have hv' : its[i]? = some v := by simpa using hv
    cases hb : bs[i]? with
    | none =>
      have : its[i]? = none := rv.none_of (by rw [List.getElem?_map, hb]; rfl)
      rw [this] at hv'; cases hv'
    | some b =>
      obtain ⟨u, hu, ru⟩ := rv.get (x := .bl b) (i := i) (by rw [List.getElem?_map, hb]; rfl)
      rw [hv'] at hu; cases hu
      cases ru
      dsimp only at hQ
      rw [hb] at hQ
      exact wpAny_truthy_bool hQ
  refine call_all_walk (wpAny_pyIter_list hl ⟨_, _, _, _, _, _, _, rfl, Walks.list (A := X.A.in1) (I.ok.hd hc) _ p (Nat.ne_of_lt hlt) its.toArray, ⟨⟨_, Heap.get?_push_size _ rfl, rfl, rfl⟩, hl.push _⟩, htr, fun h' tk hk => ?_⟩)
  have keep : ∀ b o, s.heap.get? b = some o → h'.get? b = some o := fun b o e => hk b o (by simp; exact Nat.ne_of_lt (Heap.lt_size e)) (Heap.get?_push_of_some _ e)
  refine ⟨.bl (bs.all id), H, I.kept keep, ?_, q⟩
  have hlen : its.toArray.size = bs.length := by rw [List.size_toArray, ← rv.length, List.length_map]
  have ha : ((List.range its.toArray.size).all fun i => (bs[i]?).getD true) = bs.all id := by
    rw [hlen]
    apply Bool.eq_iff_iff.mpr
    simp only [List.all_eq_true, List.mem_range]
    constructor
    · intro h b hb
      obtain ⟨i, hi, e⟩ := List.mem_iff_getElem.mp hb
      have := h i hi
      rw [List.getElem?_eq_getElem hi, e] at this
      exact this
    · intro h i hi
      rw [List.getElem?_eq_getElem hi]
      exact h _ (List.getElem_mem hi)
  show Value.bool _ = Value.bool _
  rw [ha]
mutual
inductive RdD (K : PySem.W.Frag) (H : Hp) : V → PyData → Prop where
  | non : RdD K H .non .none
  | bl (b : Bool) : RdD K H (.bl b) (.bool b)
  | int (i : Int) : RdD K H (.int i) (.int i)
  | str (x : Str) : RdD K H (.str x) (.str x)
  | lst {a : Addr} {xs : List V} {ds : List PyData} : SqL K H a xs → RdDs K H xs ds → RdD K H (.ref a) (.list ds)
  | tup {a : Addr} {xs : List V} {ds : List PyData} : SqT K H a xs → RdDs K H xs ds → RdD K H (.ref a) (.tuple ds)
inductive RdDs (K : PySem.W.Frag) (H : Hp) : List V → List PyData → Prop where
  | nil : RdDs K H [] []
  | cons {x : V} {d : PyData} {xs : List V} {ds : List PyData} : RdD K H x d → RdDs K H xs ds → RdDs K H (x :: xs) (d :: ds)
end
theorem RdDs.ints {K : PySem.W.Frag} {H : Hp} : ∀ ns : List Int, RdDs K H (ns.map V.int) (ns.map PyData.int)
  | [] => .nil
  | _ :: r => .cons (.int _) (RdDs.ints r)
mutual
theorem reads_of {pins : List (Addr × Obj)} {σ : St} {H : Hp} {s : Shared} (I : Inv X pins σ H s) : ∀ {x : V} {d : PyData} {u : Value}, RdD X.K H x d → RelV x u → ∃ as, Reads s.heap u d as
  | _, _, _, .non, r => by cases r; exact ⟨_, .none⟩
  | _, _, _, .bl b, r => by cases r; exact ⟨_, .bool b⟩
  | _, _, _, .int i, r => by obtain ⟨t, rfl⟩ := r; exact ⟨_, .int i t⟩
  | _, _, _, .str x, r => by obtain ⟨t, rfl⟩ := r; exact ⟨_, .str x t⟩
  | _, _, _, .lst hq hs, r => by
    cases r
    obtain ⟨its, rv, pl, _⟩ := I.list hq
    obtain ⟨o, ho, hc, n, hd⟩ := pl.isList
    obtain ⟨as, h⟩ := reads_all I hs rv
    exact ⟨_, .list ho hc hd (by simpa using h)⟩
  | _, _, _, .tup hq hs, r => by
    cases r
    obtain ⟨its, rv, ⟨o, ho, hc, n, hd⟩, _⟩ := I.tuple hq
    obtain ⟨as, h⟩ := reads_all I hs rv
    exact ⟨_, .tuple ho hc hd (by simpa using h)⟩
theorem reads_all {pins : List (Addr × Obj)} {σ : St} {H : Hp} {s : Shared} (I : Inv X pins σ H s) : ∀ {xs : List V} {ds : List PyData} {us : List Value}, RdDs X.K H xs ds → Vals xs us → ∃ as, ReadsAll s.heap us ds as
  | _, _, _, .nil, .nil => ⟨_, .nil⟩
  | _, _, _, .cons h t, .cons r q => by
    obtain ⟨as, h1⟩ := reads_of I h r
    obtain ⟨bs, h2⟩ := reads_all I t q
    exact ⟨_, .cons h1 h2⟩
end
inductive rEqD (K : PySem.W.Frag) (x y : V) (H : Hp) (Q : VK) : Prop
  | mk (d e : PyData) (rx : RdD K H x d) (ry : RdD K H y e) (sd : SeqAt.shaped d = true) (se : SeqAt.shaped e = true) (q : Q (.bl (PyData.eqv d e)) H) : rEqD K x y H Q
inductive rNeD (K : PySem.W.Frag) (x y : V) (H : Hp) (Q : VK) : Prop
  | mk (d e : PyData) (rx : RdD K H x d) (ry : RdD K H y e) (sd : SeqAt.shaped d = true) (se : SeqAt.shaped e = true) (q : Q (.bl (!PyData.eqv d e)) H) : rNeD K x y H Q
theorem op_eqD (hu : X.A.units + 64 < cLine) : OpR X (compareOp .Eq) (rEqD X.K) := by
  intro pins s σ H x y v u Q I rx ry h
  obtain ⟨d, e, hd, he, s1, s2, q⟩ := h
  obtain ⟨as, r1⟩ := reads_of I hd rx
  obtain ⟨bs, r2⟩ := reads_of I he ry
  exact eq_dataH r1 r2 s1 s2 hu ⟨.bl _, H, I, rfl, q⟩
theorem op_neD (hu : X.A.units + 64 < cLine) : OpR X (compareOp .NotEq) (rNeD X.K) := by
  intro pins s σ H x y v u Q I rx ry h
  obtain ⟨d, e, hd, he, s1, s2, q⟩ := h
  obtain ⟨as, r1⟩ := reads_of I hd rx
  obtain ⟨bs, r2⟩ := reads_of I he ry
  exact ne_dataH r1 r2 s1 s2 hu ⟨.bl _, H, I, rfl, q⟩
end
end L2
set_option Elab.async false
set_option linter.all false
set_option maxRecDepth 100000
set_option maxHeartbeats 2000000
namespace L2
open PySem PySem.Spec PyProof.Rows
inductive Sp1 (f : V → Hp → VK → XK → Prop) (vs : List V) (H : Hp) (Q : VK) (E : XK) : Prop
  | mk (a : V) (e : vs = [a]) (h : f a H Q E) : Sp1 f vs H Q E
inductive Sp2 (f : V → V → Hp → VK → XK → Prop) (vs : List V) (H : Hp) (Q : VK) (E : XK) : Prop
  | mk (a b : V) (e : vs = [a, b]) (h : f a b H Q E) : Sp2 f vs H Q E
inductive Sp3 (f : V → V → V → Hp → VK → XK → Prop) (vs : List V) (H : Hp) (Q : VK) (E : XK) : Prop
  | mk (a b c : V) (e : vs = [a, b, c]) (h : f a b c H Q E) : Sp3 f vs H Q E
inductive Sp4 (f : V → V → V → V → Hp → VK → XK → Prop) (vs : List V) (H : Hp) (Q : VK) (E : XK) : Prop
  | mk (a b c d : V) (e : vs = [a, b, c, d]) (h : f a b c d H Q E) : Sp4 f vs H Q E
structure Def (K : PySem.W.Frag) (mg : Str → Option Value) (x : Str) (st : Stmt) : Prop where
  ex : ∃ f fd, Fun K x x st f fd ∧ mg x = some (.ref f)
theorem def_mk {K : PySem.W.Frag} {h : Heap} {mg : Str → Option Value} {x : Str} {st : Stmt} {f : Addr} {oc : Value} {od an : Option Addr} {osl : Array (Option Value)} {kV doc pm cdv ct : Value} (X : K.In h) (G : h.Ns mainGlobals mg)
    (a : PySem.W.nsIn K mainGlobals x = some (some (.ref f))) (l : K.lookup f = some ⟨oc, od, .func (PySem.W.fnOf x x (defArgs st) (defBody st) (defScope st) .none kV doc pm an cdv ct), osl⟩) (c : PySem.W.codeIn K cdv x = true) (k : PySem.W.keepIn K (.ref f) = true) : Def K mg x st :=
  ⟨f, _, fun_mk l c k, PySem.W.mg_of X G a⟩
structure FnS (P : Program) (w : World) (K : PySem.W.Frag) (mg : Str → Option Value) (base : Heap) (x : Str) (ps : List Str) (k : Nat) (sp : Sp) : Prop where
  ex : ∃ f fd, FnOk P w K mg base (CX1 P w) k f fd ps sp ∧ mg x = some (.ref f) ∧ PySem.W.keepIn K (.ref f) = true ∧ Binds K fd ps []
noncomputable def BindsAll (x : Str) (st : Stmt) (ps : List Str) : Prop := ∀ (kV doc pm : Value) (an : Option Addr) (cdv ct : Value) (us : List Value), us.length = ps.length → bindArgs (PySem.W.fnOf x x (defArgs st) (defBody st) (defScope st) .none kV doc pm an cdv ct) ⟨us, []⟩ = pure (ps.zip us)
section
variable {P : Program} {w : World} {K : PySem.W.Frag} {mg : Str → Option Value} {base : Heap}
theorem Def.ok {x : Str} {st : Stmt} {N ps : List Str} {k : Nat} {sp : Sp} (D : Def K mg x st) (S : FnScope N ps (defScope st)) (B : BindsAll x st ps) (len : ∀ vs H Q E, sp vs H Q E → vs.length = ps.length)
    (hbody : ∀ (f : Addr) (cdv : Value) (A : Around) (outer : List Env) (s : Shared) (H : Hp) (vs : List V) (Q : VK) (E : XK), Room k (A.deeper (envOfC x (defScope st) s.heap.objs.size f cdv)) → sp vs H Q E →
      ∃ t, PSs (cxOf (CX1 P w) P w K mg base N x (defScope st) f cdv A outer s H E) (defBody st) t ∧ t { nx := fun _ H' => Q .non H', rt := Q } (start N vs) H) : FnS P w K mg base x ps (k + 1) sp := by
  obtain ⟨f, fd, F, hm⟩ := D.ex
  exact ⟨f, fd, F.okX S len (hbody f), hm, F.kp, F.binds B⟩
theorem sp1_len {f : V → Hp → VK → XK → Prop} {a : Str} : ∀ vs H Q E, Sp1 f vs H Q E → vs.length = [a].length := fun _ _ _ _ ⟨_, e, _⟩ => by rw [e]; rfl
theorem sp2_len {f : V → V → Hp → VK → XK → Prop} {a b : Str} : ∀ vs H Q E, Sp2 f vs H Q E → vs.length = [a, b].length := fun _ _ _ _ ⟨_, _, e, _⟩ => by rw [e]; rfl
theorem sp3_len {f : V → V → V → Hp → VK → XK → Prop} {a b c : Str} : ∀ vs H Q E, Sp3 f vs H Q E → vs.length = [a, b, c].length := fun _ _ _ _ ⟨_, _, _, e, _⟩ => by rw [e]; rfl
theorem sp4_len {f : V → V → V → V → Hp → VK → XK → Prop} {a b c d : Str} : ∀ vs H Q E, Sp4 f vs H Q E → vs.length = [a, b, c, d].length := fun _ _ _ _ ⟨_, _, _, _, e, _⟩ => by rw [e]; rfl
end
section
variable {X : Cx}
inductive tCut (G : St → Hp → Prop) (t u : TS) (D : Ends) (σ : St) (H : Hp) : Prop
  | mk (h1 : ∀ σ' H', G σ' H' → u D σ' H') (h2 : t { D with nx := G } σ H) : tCut G t u D σ H
theorem pss_cut {st : Stmt} {rest : List Stmt} {t u : TS} (G : St → Hp → Prop) (h1 : PS X st t) (h2 : PSs X rest u) : PSs X (st :: rest) (tCut G t u) := by
  intro pins s σ H D I ⟨hA, hB⟩
  refine wpAny_execs_cons (thn (h1 pins s σ H { D with nx := G } I hB) fun f s1 q => ?_)
  cases f with
  | next =>
    obtain ⟨σ', H', I', q⟩ := q
    exact h2 pins s1 σ' H' D I' (hA σ' H' q)
  | ret v => exact q
  | brk => exact q
  | cont => exact q
theorem pe_fn {x : Str} {ps : List Str} {k k' : Nat} {sp : Sp} {E : XK} {p pos : Pos} {e : Expr} {es : List Expr} {t : TA} (F : FnS X.prog X.w X.K X.mg X.base x ps k' sp) (hr : Room k X.A) (hx : Passes (CX1 X.prog X.w) X E) (ha : PA X (e :: es) t) (hkk : k' ≤ k := by decide) (hg : Gl X x := by rfl)
    (hdb : (x == ("__debug__" : Str)) = false := by decide) (he : starEach (e :: es) X.env = (false, eval e X.env) :: starEach es X.env := by rfl) (hpl : (backTo pos (starEach es X.env)).any (·.1) = false := by rfl) :
    PE X (.Call (.Name x p) (e :: es) [] pos) (tCall sp [] E t) := by
  obtain ⟨f, fd, F, hm, hk, hb⟩ := F.ex
  exact pe_call F (hr.mono hkk) hg hm hk hb .nil hx ha hdb he hpl
theorem pex_fn {x : Str} {ps : List Str} {k k' : Nat} {sp : Sp} {p pos : Pos} {e : Expr} {es : List Expr} {t : TA} (O : Own X) (F : FnS X.prog X.w X.K X.mg X.base x ps k' sp) (hr : Room k X.A) (ha : PA X.nox (e :: es) t) (hkk : k' ≤ k := by decide) (hg : Gl X x := by rfl)
    (hdb : (x == ("__debug__" : Str)) = false := by decide) (he : starEach (e :: es) X.env = (false, eval e X.env) :: starEach es X.env := by rfl) (hpl : (backTo pos (starEach es X.env)).any (·.1) = false := by rfl) :
    PEx X (.Call (.Name x p) (e :: es) [] pos) (fun σ H Q E => t σ H fun vs H1 => sp (vs ++ []) H1 Q E) := by
  obtain ⟨f, fd, F, hm, hk, hb⟩ := F.ex
  exact pex_call O F (hr.mono hkk) hg hm hk hb .nil ha hdb he hpl
end
end L2
set_option Elab.async false
set_option linter.all false
set_option maxRecDepth 100000
set_option maxHeartbeats 2000000
namespace L2
open PySem PySem.Spec PyProof.Rows
section
variable {X : Cx}
theorem pe_ty {x : Str} {c : String} {pos : Pos} (hg : Gl X x) (hm : X.mg x = none) (hv : bootBuiltins x = some (.type c)) (hn : x ≠ "__name__" := by decide) (hd : (x == ("__debug__" : Str)) = false := by decide) : PE X (.Name x pos) (tC (.ty c)) :=
  pe_bltn (v := .ty c) hg hm hv rfl hn hd
noncomputable def CMulB (i j : Int) : Prop := (-(2 ^ 250) < i ∧ i < 2 ^ 250) ∧ (-(2 ^ 250) < j ∧ j < 2 ^ 250)
theorem bits_250 {k : Int} (h1 : -(2 ^ 250) < k) (h2 : k < 2 ^ 250) : Builtin.Int.intBits k ≤ 2 ^ 20 := by
  have hn : k.natAbs < 2 ^ 250 := by
    have e : ((2 ^ 250 : Nat) : Int) = 2 ^ 250 := by norm_cast
    omega
  unfold Builtin.Int.intBits
  split
  · decide
  · rename_i hz
    have hk : k.natAbs ≠ 0 := by
      intro z
      exact hz (by simpa using z)
    have := (Nat.log2_lt hk).mpr hn
    have h20 : (251 : Nat) ≤ 2 ^ 20 := by decide
    omega
theorem op_mulB : OpR X (binaryOp .Mult) (rI CMulB fun i j => .int (i * j)) := opI fun _ _ _ _ _ _ _ hc q => mul_int q (IntMulOk.of_bits (bits_250 hc.1.1 hc.1.2) (bits_250 hc.2.1 hc.2.2))
inductive rCatS (K : PySem.W.Frag) (x y : V) (H : Hp) (Q : VK) : Prop
  | mk (l b : Addr) (xs zs : List V) (ex : x = .ref l) (ey : y = .ref b) (s : SqL K H l xs) (s' : SqL K H b zs) (z : xs.length + zs.length ≤ sizeLine) (q : ∀ p, H p = none → Q (.ref p) (upd H p (.lst (xs ++ zs)))) : rCatS K x y H Q
theorem op_catS : OpR X (binaryOp .Add) (rCatS X.K) := by
  intro pins s σ H x y v u Q I rx ry h
  obtain ⟨l, b, xs, zs, rfl, rfl, hH, hB, hz, q⟩ := h
  cases rx
  cases ry
  obtain ⟨its, r, pl, z⟩ := I.list hH
  obtain ⟨its2, r2, pl2, z2⟩ := I.list hB
  have l1 := r.length
  have l2 := r2.length
  have fin : EP X pins σ Q (.ref s.heap.objs.size) { s with heap := s.heap.push { cls := .type "list", data := .seq (its ++ its2).toArray } } :=
    ⟨.ref _, _, I.lnew (t' := s.toks) (r.append r2) (by rw [List.length_append]; omega), rfl, q _ I.fresh⟩
  obtain ⟨⟨c1, dd, d1, sl⟩, ho, hc, n, hd⟩ := pl.isList
  obtain ⟨⟨c2, dd2, d2, sl2⟩, ho2, hc2, n2, hd2⟩ := pl2.isList
  cases hc; cases hc2; cases hd; cases hd2
  refine concat_meets ⟨_, ho, rfl⟩ ⟨_, ho2, rfl⟩ noFill_list_add seq_list_add PySem.F.slot_list_add PySem.F.entry_list_add (PySem.F.args_list_add_2 _ _)
    (list_addW l b its.toArray its2.toArray n n2 dd dd2 sl sl2 (by rw [List.size_toArray, List.size_toArray]; omega)) ⟨ho, ho2, ?_⟩
  have ea : its.toArray ++ its2.toArray = (its ++ its2).toArray := by simp
  rw [ea]
  exact fin
theorem compcap0 {N' N : List Str} {scope : Scope} {lv : Nat} : ∀ (p j : Nat), ([] : List Nat)[p]? = some j → ∃ x, N'[lv + p]? = some x ∧ N[j]? = some x ∧ scope.names.lookup x = some .free := fun p j h => by simp at h
theorem compcap1 {N' N : List Str} {scope : Scope} {lv a : Nat} {x : Str} (h1 : N'[lv]? = some x) (h2 : N[a]? = some x) (h3 : scope.names.lookup x = some .free) :
    ∀ (p j : Nat), ([a] : List Nat)[p]? = some j → ∃ x, N'[lv + p]? = some x ∧ N[j]? = some x ∧ scope.names.lookup x = some .free := fun p j h => by
  cases p with
  | zero => have e : a = j := by simpa using h
            subst e; exact ⟨x, h1, h2, h3⟩
  | succ p => simp at h
theorem compcap2 {N' N : List Str} {scope : Scope} {lv a b : Nat} {x y : Str} (h1 : N'[lv]? = some x) (h2 : N[a]? = some x) (h3 : scope.names.lookup x = some .free) (h4 : N'[lv + 1]? = some y) (h5 : N[b]? = some y) (h6 : scope.names.lookup y = some .free) :
    ∀ (p j : Nat), ([a, b] : List Nat)[p]? = some j → ∃ x, N'[lv + p]? = some x ∧ N[j]? = some x ∧ scope.names.lookup x = some .free := fun p j h => by
  match p with
  | 0 => have e : a = j := by simpa using h
         subst e; exact ⟨x, h1, h2, h3⟩
  | 1 => have e : b = j := by simpa using h
         subst e; exact ⟨y, h4, h5, h6⟩
  | p + 2 => simp at h
end
noncomputable def leastFrom (val : Nat → Int) : Nat → Nat → Option Int → Option Int
  | _, 0, c => c
  | i, k + 1, c => leastFrom val (i + 1) k (some (match c with | none => val i | some m => if val i < m then val i else m))
section
variable {prog : Program} {w : World} {A : Around} {R : Result → Shared → Prop} {I : Addr} {fp wr : List Addr} {n : Nat} {Pi : Nat → Value → Prop} {St : Nat → Heap → Prop} {S : Addr} {dv : Value}
noncomputable def BestAt (h : Heap) (S : Addr) (c : Option Int) : Prop := ∃ e, match c with
  | none => h.get? S = some { cls := .type "list", dict := none, data := .seq #[] e, slots := #[] }
  | some m => ∃ t, h.get? S = some { cls := .type "list", dict := none, data := .seq #[.int m t, .int m t] e, slots := #[] }
noncomputable def BestRet (R : Result → Shared → Prop) (dv : Value) (c : Option Int) (s : Shared) : Prop := match c with
  | none => R (.ok (.ret dv)) s
  | some m => ∀ t, R (.ok (.ret (.int m t))) s
end
section
variable {X : Cx}
end
end L2
set_option Elab.async false
set_option linter.all false
set_option maxRecDepth 100000
set_option maxHeartbeats 2000000
namespace L2
open PySem PySem.Spec PyProof.Rows
noncomputable def plainE : Expr → Bool
  | .Starred .. => false
  | _ => true
theorem star_plain {e : Expr} {es : List Expr} {env : Env} (h : plainE e = true) : starEach (e :: es) env = (false, eval e env) :: starEach es env := by
  cases e <;> first | rfl | cases h
theorem any_plain {env : Env} {pos : Pos} : ∀ {es : List Expr}, es.all plainE = true → (backTo pos (starEach es env)).any (·.1) = false
  | [], _ => rfl
  | e :: es, h => by
    rw [List.all_cons, Bool.and_eq_true] at h
    rw [star_plain h.1]
    show (false || (backTo pos (starEach es env)).any (·.1)) = false
    rw [any_plain h.2]; rfl
section
variable {X : Cx} {e : Expr} {es : List Expr} {te : TE} {t : TA} {x : Str} {p pos : Pos} {id T : String} {r : List V → Hp → VK → Prop}
theorem ac (ha : PE X e te) (hr : PA X es t) (hs : plainE e = true := by rfl) : PA X (e :: es) (tCons te t) := pa_cons ha hr (star_plain hs)
theorem cBi (hc : CallR X (.builtin id) r) (hg : Gl X x) (hm : X.mg x = none) (hv : bootBuiltins x = some (.builtin id)) (ha : PA X (e :: es) t) (hs : plainE e = true := by rfl) (hp : es.all plainE = true := by rfl) (hn : x ≠ "__name__" := by decide) (hdb : (x == ("__debug__" : Str)) = false := by decide) :
    PE X (.Call (.Name x p) (e :: es) [] pos) (tCB r t) := pe_callB hc hg hm hv ha hn hdb (star_plain hs) (any_plain hp)
theorem cTy (hc : CallR X (.type T) r) (hg : Gl X x) (hm : X.mg x = none) (hv : bootBuiltins x = some (.type T)) (ha : PA X (e :: es) t) (hs : plainE e = true := by rfl) (hp : es.all plainE = true := by rfl) (hn : x ≠ "__name__" := by decide) (hdb : (x == ("__debug__" : Str)) = false := by decide) :
    PE X (.Call (.Name x p) (e :: es) [] pos) (tCB r t) := pe_callTy hc hg hm hv ha hn hdb (star_plain hs) (any_plain hp)
theorem cFn {ps : List Str} {k k' : Nat} {sp : Sp} {E : XK} (F : FnS X.prog X.w X.K X.mg X.base x ps k' sp) (hr : Room k X.A) (hx : Passes (CX1 X.prog X.w) X E) (ha : PA X (e :: es) t) (hkk : k' ≤ k := by decide) (hg : Gl X x := by rfl)
    (hs : plainE e = true := by rfl) (hp : es.all plainE = true := by rfl) (hdb : (x == ("__debug__" : Str)) = false := by decide) : PE X (.Call (.Name x p) (e :: es) [] pos) (tCall sp [] E t) :=
  pe_fn F hr hx ha hkk hg hdb (star_plain hs) (any_plain hp)
theorem xFn {ps : List Str} {k k' : Nat} {sp : Sp} (O : Own X) (F : FnS X.prog X.w X.K X.mg X.base x ps k' sp) (hr : Room k X.A) (ha : PA X.nox (e :: es) t) (hkk : k' ≤ k := by decide) (hg : Gl X x := by rfl)
    (hs : plainE e = true := by rfl) (hp : es.all plainE = true := by rfl) (hdb : (x == ("__debug__" : Str)) = false := by decide) :
    PEx X (.Call (.Name x p) (e :: es) [] pos) (fun σ H Q E => t σ H fun vs H1 => sp (vs ++ []) H1 Q E) := pex_fn O F hr ha hkk hg hdb (star_plain hs) (any_plain hp)
theorem CompOk.alone {scope : Scope} {lv : Nat} {N' : List Str} (kind : scope.kind = .function) (h : ∀ y ∈ scope.names, y.2 ≠ .cell ∧ y.2 ≠ .free) (loc : ∀ y ∈ scope.names, y.2 = .local → scope.names.lookup y.1 = some .local) (len : N'.length = lv) : CompOk X scope lv [] N' :=
  ⟨kind, fun y hy => (h y hy).1, fun y hy hz => absurd hz (h y hy).2, loc, len, compcap0⟩
theorem op_eqDK (K : PySem.W.Frag) (hu : X.A.units + 64 < cLine) (h : X.K = K := by rfl) : OpR X (compareOp .Eq) (rEqD K) := h ▸ op_eqD hu
theorem op_neDK (K : PySem.W.Frag) (hu : X.A.units + 64 < cLine) (h : X.K = K := by rfl) : OpR X (compareOp .NotEq) (rNeD K) := h ▸ op_neD hu
end
noncomputable def Body (P : Program) (w : World) (K : PySem.W.Frag) (mg : Str → Option Value) (base : Heap) (N : List Str) (x : Str) (st : Stmt) (k : Nat) (sp : Sp) : Prop :=
  ∀ (f : Addr) (cdv : Value) (A : Around) (outer : List Env) (s : Shared) (H : Hp) (vs : List V) (Q : VK) (E : XK), Room k (A.deeper (envOfC x (defScope st) s.heap.objs.size f cdv)) → sp vs H Q E →
    ∃ t, PSs (cxOf (CX1 P w) P w K mg base N x (defScope st) f cdv A outer s H E) (defBody st) t ∧ t { nx := fun _ H' => Q .non H', rt := Q } (start N vs) H
theorem cx1_none {P : Program} {w : World} (H : Hp) (s : Shared) (e : Value) (s' : Shared) : CX1 P w [] H s (fun _ _ _ => False) e s' → False := fun ⟨_, _, _, _, _, _, _, _, _, _, h⟩ => h.elim
end L2
set_option Elab.async false
set_option linter.all false
set_option maxRecDepth 100000
set_option maxHeartbeats 2000000
namespace L2
open PySem PySem.Spec PyProof.Rows
section
variable {X : Cx} {pins : List (Addr × Obj)} {σ : List (Option V)} {H : Hp} {s : Shared} {h' : Heap}
theorem Inv.turnedL {t' : Nat} {fp : List Addr} (I : Inv X pins σ H s) (k : ∀ b o, b ∉ fp → s.heap.get? b = some o → h'.get? b = some o) (hf : ∀ b ∈ fp, FpOk X pins H b) : Inv X pins σ H { s with heap := h', toks := t' } := by
  have away : ∀ b u, H b = some u → b ∉ fp := fun b u e z => by rw [(hf b z).1] at e; cases e
  have hL : X.env.locals ∉ fp := fun z => (hf _ z).2.1 rfl
  refine I.step (g' := s.gens) (d' := s.drawn) (ch := fp) (fun b hb => ?_) (fun b o _ _ hc e _ => k b o hc e) (fun b o _ _ hc e _ => ⟨o.slots, k b o hc e⟩) (fun _ _ _ _ n => n)
    (fun b o hc e => ⟨o, k b o hc e⟩) (fun _ _ e => e) (fun _ _ _ e => e) (fun b ps e => ⟨#[], by rw [e]; simp⟩) (fun m hm => ?_) (fun b u e => ?_) I.bare
  · obtain ⟨_, h0, _, h1, h2, h3⟩ := hf b hb
    exact ⟨h1, h0, h2, h3⟩
  · obtain ⟨o, es, ep, ho, r⟩ := hm
    exact ⟨o, es, ep, k _ o hL ho, r⟩
  · refine (I.hok b u e).stay (fun c v hc q => k c v ?_ q) (fun _ q => q) fun _ _ q => q
    rcases hc with z | z
    · rw [z]; exact away b u e
    · exact away c _ z
end
inductive Knd | L | T
noncomputable def Knd.seq (k : Knd) (h : Heap) (a : Addr) (xs : Array Value) : Prop := match k with
  | .L => h.IsList a xs
  | .T => h.IsTuple a xs
noncomputable def Knd.it (k : Knd) (h : Heap) (j a : Addr) (n : Nat) : Prop := match k with
  | .L => h.IsListIter j a n
  | .T => h.IsTupleIter j a n
noncomputable def Knd.nm : Knd → String
  | .L => "list_iterator"
  | .T => "tuple_iterator"
noncomputable def Knd.sq (k : Knd) (K : PySem.W.Frag) (H : Hp) (a : Addr) (xs : List V) : Prop := match k with
  | .L => SqL K H a xs
  | .T => SqT K H a xs
theorem Knd.seq_at {k : Knd} {h h' : Heap} {a : Addr} {xs : Array Value} (x : k.seq h a xs) (e : ∀ o, h.get? a = some o → h'.get? a = some o) : k.seq h' a xs := by
  cases k <;> exact let ⟨o, ho, r⟩ := x; ⟨o, e _ ho, r⟩
theorem Knd.it_at {k : Knd} {h h' : Heap} {j a : Addr} {n : Nat} (x : k.it h j a n) (e : ∀ o, h.get? j = some o → h'.get? j = some o) : k.it h' j a n := by
  cases k <;> exact let ⟨o, ho, r⟩ := x; ⟨o, e _ ho, r⟩
theorem Knd.it_obj {k : Knd} {h : Heap} {j a : Addr} {n : Nat} (x : k.it h j a n) : ∃ o, h.get? j = some o ∧ o.cls = .type k.nm ∧ o.data = .fields #[.ref a, .int n 0] := by
  cases k <;> exact x
section
variable {prog : Program} {w : World} {A : Around} {E : Value → Shared → Prop} {s : Shared}
theorem nextOf_tup {j u : Addr} {n : Nat} {its : Array Value} {v : Value} {Q : Value → Shared → Prop} (hit : s.heap.IsTupleIter j u n) (ht : s.heap.IsTuple u its) (hx : its[n]? = some v)
    (hQ : ∀ h', h'.IsTupleIter j u (n + 1) → Heap.SameBut j s.heap h' → Q v { s with heap := h' }) : wpAny (model prog w) A (Builtin.SmallTypes.nextOf (.ref j)) Q E s := by
  obtain ⟨o, ho, hc, hd⟩ := id hit
  obtain ⟨ou, hou, _, nu, hdu⟩ := ht
  unfold Builtin.SmallTypes.nextOf; refine wpAny_bind (wpAny_callSpecial?_slot (name := Str.ofString "__next__") hit.typeIs F.slot_tuple_iterator_next (wpAny_call_entry F.slot_tuple_iterator_next hit.typeIs F.entry_tuple_iterator_next ?_ (F.args_tuple_iterator_next_1 _)))
  show wpAny _ _ (field (.ref j) 0 >>= _) _ _ s; refine wpAny_bind (wpAny_field ho hd (x := .ref u) rfl ?_)
  show wpAny _ _ (if (Value.ref u == Value.none) = true then _ else _) _ _ s; rw [if_neg (show ¬ ((Value.ref u == Value.none) = true) from Bool.false_ne_true)]
  show wpAny _ _ (field (.ref j) 1 >>= _) _ _ s; refine wpAny_bind (wpAny_field ho hd (x := .int n 0) rfl ?_)
  show wpAny _ _ (seqItems? (.ref u) >>= _) _ _ s; refine wpAny_bind (wpAny_seqItems hou hdu ?_); simp only [Int.toNat_natCast, hx]
  refine wpAny_bind (wpAny_setField ho hd (by simp) (wpAny_pure ⟨v, rfl, wpAny_pure (hQ _ ?_ (Heap.SameBut.update ..))⟩)); refine ⟨_, Heap.get?_update_self _ ho (Obj.isFreed_of_fields (Obj.data_mapFields hd _)), (Obj.cls_mapFields ..).trans hc, ?_⟩
  rw [Obj.data_mapFields hd]; simp [rawInt]
theorem nextOf_tup_end {j u : Addr} {n : Nat} {its : Array Value} {Q : Value → Shared → Prop} (hh : A.handled = none) (hit : s.heap.IsTupleIter j u n) (ht : s.heap.IsTuple u its) (hx : its[n]? = none)
    (hE : ∀ h' e, Heap.ExtBut j s.heap h' → (∃ o, h'.get? e = some o ∧ o.cls = .type "StopIteration") → E (.ref e) { s with heap := h' }) : wpAny (model prog w) A (Builtin.SmallTypes.nextOf (.ref j)) Q E s := by
  obtain ⟨o, ho, hc, hd⟩ := id hit
  obtain ⟨ou, hou, _, nu, hdu⟩ := ht
  unfold Builtin.SmallTypes.nextOf; refine wpAny_bind (wpAny_callSpecial?_slot (name := Str.ofString "__next__") hit.typeIs F.slot_tuple_iterator_next (wpAny_call_entry F.slot_tuple_iterator_next hit.typeIs F.entry_tuple_iterator_next ?_ (F.args_tuple_iterator_next_1 _)))
  show wpAny _ _ (field (.ref j) 0 >>= _) _ _ s; refine wpAny_bind (wpAny_field ho hd (x := .ref u) rfl ?_)
  show wpAny _ _ (if (Value.ref u == Value.none) = true then _ else _) _ _ s; rw [if_neg (show ¬ ((Value.ref u == Value.none) = true) from Bool.false_ne_true)]
  show wpAny _ _ (field (.ref j) 1 >>= _) _ _ s; refine wpAny_bind (wpAny_field ho hd (x := .int n 0) rfl ?_)
  show wpAny _ _ (seqItems? (.ref u) >>= _) _ _ s; refine wpAny_bind (wpAny_seqItems hou hdu ?_); simp only [Int.toNat_natCast, hx]
  refine wpAny_bind (wpAny_rule (wpAny_bind (wpAny_setField ho hd (by simp) ?_))); show wpAny _ _ (newExc (.type "StopIteration") [] >>= _) _ _ _
  refine wpAny_bind ?_; simp only [newExc, newTuple]; refine wpAny_bind (wpAny_newObj_type ?_ (by size_fits)); refine wpAny_bind (m := firstArgMember _ _) (wpAny_of_eq (a := Value.none) (by first | rfl | (simp only [firstArgMember]; rfl)) ?_)
  refine wpAny_newObj_type ?_ (by size_fits); simp only [raiseNew]; refine wpAny_bind (wpAny_handled ?_)
  first | rw [show A.in1.handled = none from hh]; refine wpAny_bind (wpAny_pure (wpAny_throw ?_)) | rw [hh]; refine wpAny_bind (wpAny_pure (wpAny_throw ?_))
  exact hE _ _ (((Heap.SameBut.update ..).extBut.push _).push _) ⟨_, Heap.get?_push_size _ rfl, rfl⟩
theorem Knd.next {k : Knd} {j u : Addr} {n : Nat} {its : Array Value} {v : Value} {Q : Value → Shared → Prop} (hit : k.it s.heap j u n) (ht : k.seq s.heap u its) (hx : its[n]? = some v)
    (hQ : ∀ h', k.it h' j u (n + 1) → Heap.SameBut j s.heap h' → Q v { s with heap := h' }) : wpAny (model prog w) A (Builtin.SmallTypes.nextOf (.ref j)) Q E s := by
  cases k with
  | L => exact wpAny_nextOf_list_item hit ht hx hQ
  | T => exact nextOf_tup hit ht hx hQ
theorem Knd.done {k : Knd} {j u : Addr} {n : Nat} {its : Array Value} {Q : Value → Shared → Prop} (hh : A.handled = none) (hit : k.it s.heap j u n) (ht : k.seq s.heap u its) (hx : its[n]? = none)
    (hE : ∀ h' e, Heap.ExtBut j s.heap h' → (∃ o, h'.get? e = some o ∧ o.cls = .type "StopIteration") → E (.ref e) { s with heap := h' }) : wpAny (model prog w) A (Builtin.SmallTypes.nextOf (.ref j)) Q E s := by
  cases k with
  | L => exact wpAny_nextOf_list_end hh hit ht hx hE
  | T => exact nextOf_tup_end hh hit ht hx hE
structure ZAt (h : Heap) (k1 k2 : Knd) (n a1 a2 : Addr) (i : Nat) (f0 : Value) : Prop where
  z : IsZip h (n + 4) (n + 2) (n + 3) f0
  ti : IsPair h (n + 2) (.ref n) (.ref (n + 1))
  to : ∃ a b, IsPair h (n + 3) a b
  i1 : k1.it h n a1 i
  i2 : k2.it h (n + 1) a2 i
noncomputable def zfp (n : Addr) : List Addr := [n + 4, n + 2, n + 3, n, n + 1]
theorem zip_item {k1 k2 : Knd} {n a1 a2 : Addr} {i : Nat} {xs ys : Array Value} {x y : Value} {Q : Option Value → Shared → Prop} (Z : ZAt s.heap k1 k2 n a1 a2 i .none) (d1 : a1 ∉ zfp n) (d2 : a2 ∉ zfp n) (h1 : k1.seq s.heap a1 xs) (h2 : k2.seq s.heap a2 ys) (hx : xs[i]? = some x) (hy : ys[i]? = some y)
    (hQ : ∀ h', ZAt h' k1 k2 n a1 a2 (i + 1) (rawInt s.heap.objs.size) → IsPair h' s.heap.objs.size x y → (∀ c o, c ∉ zfp n → s.heap.get? c = some o → h'.get? c = some o) → Q (some (.ref s.heap.objs.size)) { s with heap := h' }) :
    wpAny (model prog w) A (pyNext (.ref (n + 4))) Q E s := by
  obtain ⟨hz, hTI, ⟨a, b, hTO⟩, g1, g2⟩ := Z
  have nz : n ≠ n + 4 := Nat.ne_of_lt (Nat.lt_add_of_pos_right (by decide))
  have n1z : n + 1 ≠ n + 4 := by intro e; have := Nat.add_left_cancel e; exact absurd this (by decide)
  have n2z : n + 2 ≠ n + 4 := by intro e; have := Nat.add_left_cancel e; exact absurd this (by decide)
  have n3z : n + 3 ≠ n + 4 := by intro e; have := Nat.add_left_cancel e; exact absurd this (by decide)
  have n3n : n + 3 ≠ n := Nat.ne_of_gt (Nat.lt_add_of_pos_right (by decide))
  have n31 : n + 3 ≠ n + 1 := by intro e; have := Nat.add_left_cancel e; exact absurd this (by decide)
  have n32 : n + 3 ≠ n + 2 := by intro e; have := Nat.add_left_cancel e; exact absurd this (by decide)
  have n2n : n + 2 ≠ n := Nat.ne_of_gt (Nat.lt_add_of_pos_right (by decide))
  have n21 : n + 2 ≠ n + 1 := by intro e; have := Nat.add_left_cancel e; exact absurd this (by decide)
  have n1n : n + 1 ≠ n := Nat.ne_of_gt (Nat.lt_add_of_pos_right (by decide))
  have m1 : ∀ c, c ∈ zfp n → a1 ≠ c := fun c hc e => d1 (by rw [e]; exact hc)
  have m2 : ∀ c, c ∈ zfp n → a2 ≠ c := fun c hc e => d2 (by rw [e]; exact hc)
  have p4 : n + 4 ∈ zfp n := .head _
  have p3 : n + 3 ∈ zfp n := .tail _ (.tail _ (.head _))
  have p0 : n ∈ zfp n := .tail _ (.tail _ (.tail _ (.head _)))
  have p1 : n + 1 ∈ zfp n := .tail _ (.tail _ (.tail _ (.tail _ (.head _))))
  have ty : s.TypeIs (.ref (n + 4)) "zip" := ⟨_, hz, rfl⟩
  unfold pyNext
  refine wpAny_bind (wpAny_attempt (wpAny_callSpecial?_slot (name := Str.ofString "__next__") ty F.slot_zip_next (wpAny_call_entry F.slot_zip_next ty F.entry_zip_next ?_ (F.args_zip_next_1 _))))
  show wpAny _ _ (field (.ref (n + 4)) 2 >>= _) _ _ _; refine wpAny_bind (wpAny_field hz rfl (x := .bool false) rfl ?_)
  show wpAny _ _ (field (.ref (n + 4)) 3 >>= _) _ _ _; refine wpAny_bind (wpAny_field hz rfl (x := .ref (n + 2)) rfl ?_)
  refine wpAny_bind (wpAny_seqItems hTI rfl ?_); show wpAny _ _ (Builtin.SmallTypes.ownedTupleIsFree (.ref (n + 4)) >>= _) _ _ _
  refine wpAny_bind ?_; unfold Builtin.SmallTypes.ownedTupleIsFree; refine wpAny_bind (wpAny_field hz rfl (x := .none) rfl (wpAny_pure ?_)); simp only [if_true]
  refine wpAny_bind (wpAny_rule ?_); refine wpAny_bind (wpAny_field hz rfl (x := .ref (n + 3)) rfl ?_)
  refine wpAny_bind (wpAny_setField_rec hz (by simp) fun q1 hz1 s1 => ?_)
  replace hz1 : IsZip q1 (n + 4) (n + 2) (n + 3) .ellipsis := hz1
  refine wpAny_bind ?_; simp only [List.zipIdx_cons, List.zipIdx_nil, List.forIn_cons, List.forIn_nil]
  refine wpAny_bind (wpAny_bind (wpAny_onRaise ?_)); show wpAny _ _ (Builtin.SmallTypes.nextOf (.ref n) >>= _) _ _ _
  refine wpAny_bind (Knd.next (Knd.it_at (k := k1) g1 fun o e => s1.extBut _ _ nz e) (Knd.seq_at (k := k1) h1 fun o e => s1.extBut _ _ (m1 _ p4) e) hx fun q2 f2 s2 => wpAny_pure ?_)
  have hT2 : IsPair q2 (n + 3) a b := s2.extBut _ _ n3n (s1.extBut _ _ n3z hTO)
  refine wpAny_bind (wpAny_seqItems hT2 rfl ?_); refine wpAny_bind (wpAny_updateSeq_pair hT2 fun q3 hT3 s3 => ?_)
  replace hT3 : IsPair q3 (n + 3) x b := hT3
  refine wpAny_bind (wpAny_letGo (wpAny_pure ?_))
  refine wpAny_bind (wpAny_bind (wpAny_onRaise ?_)); show wpAny _ _ (Builtin.SmallTypes.nextOf (.ref (n + 1)) >>= _) _ _ _
  refine wpAny_bind (Knd.next (Knd.it_at (k := k2) g2 fun o e => s3.extBut _ _ n31.symm (s2.extBut _ _ n1n (s1.extBut _ _ n1z e))) (Knd.seq_at (k := k2) h2 fun o e => s3.extBut _ _ (m2 _ p3) (s2.extBut _ _ (m2 _ p0) (s1.extBut _ _ (m2 _ p4) e))) hy fun q4 f4 s4 => wpAny_pure ?_)
  have hT4 : IsPair q4 (n + 3) x b := s4.extBut _ _ n31 hT3
  refine wpAny_bind (wpAny_seqItems hT4 rfl ?_); refine wpAny_bind (wpAny_updateSeq_pair hT4 fun q5 hT5 s5 => ?_)
  replace hT5 : IsPair q5 (n + 3) x y := hT5
  refine wpAny_bind (wpAny_letGo (wpAny_pure (wpAny_pure ?_))); refine wpAny_bind (wpAny_seqItems hT5 rfl ?_); refine wpAny_bind (wpAny_newTuple ?_)
  have hsz : q5.objs.size = s.heap.objs.size := by rw [s5.1, s4.1, s3.1, s2.1, s1.1]
  have hz5 : IsZip q5 (n + 4) (n + 2) (n + 3) .ellipsis := s5.extBut _ _ n3z.symm (s4.extBut _ _ n1z.symm (s3.extBut _ _ n3z.symm (s2.extBut _ _ nz.symm hz1)))
  have keep5 : ∀ c o, c ∉ zfp n → s.heap.get? c = some o → q5.get? c = some o := fun c o hc e =>
    s5.extBut _ _ (fun z => hc (by rw [z]; exact p3)) (s4.extBut _ _ (fun z => hc (by rw [z]; exact p1)) (s3.extBut _ _ (fun z => hc (by rw [z]; exact p3)) (s2.extBut _ _ (fun z => hc (by rw [z]; exact p0)) (s1.extBut _ _ (fun z => hc (by rw [z]; exact p4)) e))))
  have ti5 : IsPair q5 (n + 2) (.ref n) (.ref (n + 1)) := s5.extBut _ _ n32.symm (s4.extBut _ _ n21 (s3.extBut _ _ n32.symm (s2.extBut _ _ n2n (s1.extBut _ _ n2z hTI))))
  have g15 : k1.it q5 n a1 (i + 1) := Knd.it_at (k := k1) f2 fun o e => s5.extBut _ _ n3n.symm (s4.extBut _ _ n1n.symm (s3.extBut _ _ n3n.symm e))
  have g25 : k2.it q5 (n + 1) a2 (i + 1) := Knd.it_at (k := k2) f4 fun o e => s5.extBut _ _ n31.symm e
  have zlt : n + 4 < q5.objs.size := Heap.lt_size hz5
  show wpAny _ _ (Builtin.SmallTypes.ownedTupleHandOut (.ref (n + 4)) (.ref q5.objs.size) >>= _) _ _ _
  refine wpAny_bind ?_; unfold Builtin.SmallTypes.ownedTupleHandOut
  have hz6 : IsZip (q5.push { cls := .type "tuple", data := .seq #[x, y] }) (n + 4) (n + 2) (n + 3) .ellipsis := Heap.get?_push_of_some _ hz5
  refine wpAny_bind (wpAny_setField_rec hz6 (by simp) fun q7 hz7 s7 => ?_)
  replace hz7 : IsZip q7 (n + 4) (n + 2) (n + 3) (rawInt q5.objs.size) := hz7
  refine wpAny_setField_rec hz7 (by simp) fun q8 hz8 s8 => ?_
  replace hz8 : IsZip q8 (n + 4) (n + 2) (n + 3) (rawInt q5.objs.size) := hz8
  have up : ∀ c o, c ≠ n + 4 → q5.get? c = some o → q8.get? c = some o := fun c o hc e => s8.extBut _ _ hc (s7.extBut _ _ hc (Heap.get?_push_of_some _ e))
  have hT8 : IsPair q8 q5.objs.size x y := s8.extBut _ _ (Nat.ne_of_gt zlt) (s7.extBut _ _ (Nat.ne_of_gt zlt) (Heap.get?_push_size _ rfl))
  rw [hsz] at hz8 hT8
  refine wpAny_pure ⟨_, rfl, wpAny_pure ?_⟩
  show Q (some (.ref q5.objs.size)) _; rw [hsz]
  exact hQ q8 ⟨hz8, up _ _ n2z ti5, ⟨_, _, up _ _ n3z hT5⟩, Knd.it_at (k := k1) g15 fun o e => up _ o nz e, Knd.it_at (k := k2) g25 fun o e => up _ o n1z e⟩ hT8 fun c o hc e => up c o (fun z => hc (by rw [z]; exact p4)) (keep5 c o hc e)
theorem zip_end {k1 k2 : Knd} {n a1 a2 : Addr} {i : Nat} {xs ys : Array Value} {Q : Option Value → Shared → Prop} (hh : A.handled = none) (Z : ZAt s.heap k1 k2 n a1 a2 i .none) (d1 : a1 ∉ zfp n) (d2 : a2 ∉ zfp n) (h1 : k1.seq s.heap a1 xs) (h2 : k2.seq s.heap a2 ys) (hend : xs[i]? = none ∨ ys[i]? = none)
    (hQ : ∀ h', (∀ c o, c ∉ zfp n → s.heap.get? c = some o → h'.get? c = some o) → Q none { s with heap := h' }) : wpAny (model prog w) A (pyNext (.ref (n + 4))) Q E s := by
  obtain ⟨hz, hTI, ⟨a, b, hTO⟩, g1, g2⟩ := Z
  have nz : n ≠ n + 4 := Nat.ne_of_lt (Nat.lt_add_of_pos_right (by decide))
  have n1z : n + 1 ≠ n + 4 := by intro e; have := Nat.add_left_cancel e; exact absurd this (by decide)
  have n3z : n + 3 ≠ n + 4 := by intro e; have := Nat.add_left_cancel e; exact absurd this (by decide)
  have n3n : n + 3 ≠ n := Nat.ne_of_gt (Nat.lt_add_of_pos_right (by decide))
  have n31 : n + 3 ≠ n + 1 := by intro e; have := Nat.add_left_cancel e; exact absurd this (by decide)
  have n1n : n + 1 ≠ n := Nat.ne_of_gt (Nat.lt_add_of_pos_right (by decide))
  have m1 : ∀ c, c ∈ zfp n → a1 ≠ c := fun c hc e => d1 (by rw [e]; exact hc)
  have m2 : ∀ c, c ∈ zfp n → a2 ≠ c := fun c hc e => d2 (by rw [e]; exact hc)
  have p4 : n + 4 ∈ zfp n := .head _
  have p3 : n + 3 ∈ zfp n := .tail _ (.tail _ (.head _))
  have p0 : n ∈ zfp n := .tail _ (.tail _ (.tail _ (.head _)))
  have p1 : n + 1 ∈ zfp n := .tail _ (.tail _ (.tail _ (.tail _ (.head _))))
  have ty : s.TypeIs (.ref (n + 4)) "zip" := ⟨_, hz, rfl⟩
  unfold pyNext
  refine wpAny_bind (wpAny_attempt (wpAny_callSpecial?_slot (name := Str.ofString "__next__") ty F.slot_zip_next (wpAny_call_entry F.slot_zip_next ty F.entry_zip_next ?_ (F.args_zip_next_1 _))))
  have fin : ∀ h' e, (∀ c o, c ∉ zfp n → s.heap.get? c = some o → h'.get? c = some o) → (∃ o, h'.get? e = some o ∧ o.cls = .type "StopIteration") →
      wpAny (model prog w) A (isInstance (.ref e) (.type "StopIteration") >>= fun b => if b = true then pure none else throw (.ref e)) Q E { s with heap := h' } := fun h' e hk ⟨o, ho, hc⟩ =>
    wpAny_bind (wpAny_isInstance (T := "StopIteration") (b := true) ⟨o, ho, hc⟩ isSubtype_stop (wpAny_pure (hQ _ hk)))
  show wpAny _ _ (field (.ref (n + 4)) 2 >>= _) _ _ _; refine wpAny_bind (wpAny_field hz rfl (x := .bool false) rfl ?_)
  show wpAny _ _ (field (.ref (n + 4)) 3 >>= _) _ _ _; refine wpAny_bind (wpAny_field hz rfl (x := .ref (n + 2)) rfl ?_)
  refine wpAny_bind (wpAny_seqItems hTI rfl ?_); show wpAny _ _ (Builtin.SmallTypes.ownedTupleIsFree (.ref (n + 4)) >>= _) _ _ _
  refine wpAny_bind ?_; unfold Builtin.SmallTypes.ownedTupleIsFree; refine wpAny_bind (wpAny_field hz rfl (x := .none) rfl (wpAny_pure ?_)); simp only [if_true]
  refine wpAny_bind (wpAny_rule ?_); refine wpAny_bind (wpAny_field hz rfl (x := .ref (n + 3)) rfl ?_)
  refine wpAny_bind (wpAny_setField_rec hz (by simp) fun q1 hz1 s1 => ?_)
  replace hz1 : IsZip q1 (n + 4) (n + 2) (n + 3) .ellipsis := hz1
  refine wpAny_bind ?_; simp only [List.zipIdx_cons, List.zipIdx_nil, List.forIn_cons, List.forIn_nil]
  refine wpAny_bind (wpAny_bind (wpAny_onRaise ?_)); show wpAny _ _ (Builtin.SmallTypes.nextOf (.ref n) >>= _) _ _ _
  have G1 := Knd.it_at (k := k1) g1 fun o e => s1.extBut _ _ nz e
  have S1 := Knd.seq_at (k := k1) h1 fun o e => s1.extBut _ _ (m1 _ p4) e
  cases hx : xs[i]? with
  | none =>
    refine wpAny_bind (Knd.done hh G1 S1 hx fun q2 e s2 he => ?_)
    obtain ⟨oe, hoe, hce⟩ := he
    have hz2 : IsZip q2 (n + 4) (n + 2) (n + 3) .ellipsis := s2 _ _ nz.symm hz1
    have hez : e ≠ n + 4 := fun z => by subst z; rw [hz2] at hoe; cases hoe; simp at hce
    refine wpAny_setField_rec hz2 (by simp) fun q3 _ s3 => fin q3 e (fun c o hc z => s3.extBut _ _ (fun z => hc (by rw [z]; exact p4)) (s2 _ _ (fun z => hc (by rw [z]; exact p0)) (s1.extBut _ _ (fun z => hc (by rw [z]; exact p4)) z))) ⟨oe, s3.extBut _ _ hez hoe, hce⟩
  | some x =>
    have hy : ys[i]? = none := by rcases hend with h | h; rw [hx] at h; cases h; exact h
    refine wpAny_bind (Knd.next G1 S1 hx fun q2 f2 s2 => wpAny_pure ?_)
    have hT2 : IsPair q2 (n + 3) a b := s2.extBut _ _ n3n (s1.extBut _ _ n3z hTO)
    refine wpAny_bind (wpAny_seqItems hT2 rfl ?_); refine wpAny_bind (wpAny_updateSeq_pair hT2 fun q3 hT3 s3 => ?_)
    refine wpAny_bind (wpAny_letGo (wpAny_pure ?_))
    refine wpAny_bind (wpAny_bind (wpAny_onRaise ?_)); show wpAny _ _ (Builtin.SmallTypes.nextOf (.ref (n + 1)) >>= _) _ _ _
    refine wpAny_bind (Knd.done hh (Knd.it_at (k := k2) g2 fun o e => s3.extBut _ _ n31.symm (s2.extBut _ _ n1n (s1.extBut _ _ n1z e))) (Knd.seq_at (k := k2) h2 fun o e => s3.extBut _ _ (m2 _ p3) (s2.extBut _ _ (m2 _ p0) (s1.extBut _ _ (m2 _ p4) e))) hy fun q4 e s4 he => ?_)
    obtain ⟨oe, hoe, hce⟩ := he
    have hz4 : IsZip q4 (n + 4) (n + 2) (n + 3) .ellipsis := s4 _ _ n1z.symm (s3.extBut _ _ n3z.symm (s2.extBut _ _ nz.symm hz1))
    have hez : e ≠ n + 4 := fun z => by subst z; rw [hz4] at hoe; cases hoe; simp at hce
    refine wpAny_setField_rec hz4 (by simp) fun q5 _ s5 => fin q5 e (fun c o hc z => s5.extBut _ _ (fun z => hc (by rw [z]; exact p4)) (s4 _ _ (fun z => hc (by rw [z]; exact p1)) (s3.extBut _ _ (fun z => hc (by rw [z]; exact p3)) (s2.extBut _ _ (fun z => hc (by rw [z]; exact p0)) (s1.extBut _ _ (fun z => hc (by rw [z]; exact p4)) z))))) ⟨oe, s5.extBut _ _ hez hoe, hce⟩
end
noncomputable abbrev zh1 (h : Heap) (k1 : Knd) (a1 : Addr) : Heap := h.push { cls := .type k1.nm, data := .fields #[.ref a1, .int 0 0] }
noncomputable abbrev zh2 (h : Heap) (k1 k2 : Knd) (a1 a2 : Addr) : Heap := (zh1 h k1 a1).push { cls := .type k2.nm, data := .fields #[.ref a2, .int 0 0] }
noncomputable abbrev zh3 (h : Heap) (k1 k2 : Knd) (a1 a2 : Addr) : Heap := (zh2 h k1 k2 a1 a2).push { cls := .type "tuple", data := .seq #[.ref h.objs.size, .ref (zh1 h k1 a1).objs.size] }
noncomputable abbrev zh4 (h : Heap) (k1 k2 : Knd) (a1 a2 : Addr) : Heap := (zh3 h k1 k2 a1 a2).push { cls := .type "tuple", data := .seq #[.none, .none] }
noncomputable abbrev zh5 (h : Heap) (k1 k2 : Knd) (a1 a2 : Addr) : Heap := (zh4 h k1 k2 a1 a2).push { cls := .type "zip", data := .fields #[.none, .bool false, .bool false, .ref (zh2 h k1 k2 a1 a2).objs.size, .ref (zh3 h k1 k2 a1 a2).objs.size] }
theorem zip_made (k1 k2 : Knd) (a1 a2 : Addr) (xs ys : Array Value) :
    Meets (Builtin.«zip.__new__» ⟨[.type "zip", .ref a1, .ref a2], []⟩) (fun _ R s => k1.seq s.heap a1 xs ∧ k2.seq s.heap a2 ys ∧
      R (.ok (.ret (.ref (zh4 s.heap k1 k2 a1 a2).objs.size))) { s with heap := zh5 s.heap k1 k2 a1 a2 }) :=
  .of_wp fun prog w A R s h => by
    obtain ⟨hp, g, d, tk, os⟩ := s; obtain ⟨e1, e2, h⟩ := h; have sub := sub_zip
    cases k1 <;> cases k2
    · have L1 : Heap.IsList (Shared.heap ⟨hp, g, d, tk, os⟩) a1 xs := e1
      have L2 : Heap.IsList (Shared.heap ⟨hp.push { cls := .type "list_iterator", data := .fields #[.ref a1, .int 0 0] }, g, d, tk, os⟩) a2 ys := Heap.IsList.push e2 _
      wp_walk using wpAny_pyIter_list L1, wpAny_pyIter_list L2
      exact ⟨_, rfl, h⟩
    · have L1 : Heap.IsList (Shared.heap ⟨hp, g, d, tk, os⟩) a1 xs := e1
      have L2 : Heap.IsTuple (Shared.heap ⟨hp.push { cls := .type "list_iterator", data := .fields #[.ref a1, .int 0 0] }, g, d, tk, os⟩) a2 ys := Heap.IsTuple.push e2 _
      wp_walk using wpAny_pyIter_list L1, wpAny_pyIter_tuple L2
      exact ⟨_, rfl, h⟩
    · have L1 : Heap.IsTuple (Shared.heap ⟨hp, g, d, tk, os⟩) a1 xs := e1
      have L2 : Heap.IsList (Shared.heap ⟨hp.push { cls := .type "tuple_iterator", data := .fields #[.ref a1, .int 0 0] }, g, d, tk, os⟩) a2 ys := Heap.IsList.push e2 _
      wp_walk using wpAny_pyIter_tuple L1, wpAny_pyIter_list L2
      exact ⟨_, rfl, h⟩
    · have L1 : Heap.IsTuple (Shared.heap ⟨hp, g, d, tk, os⟩) a1 xs := e1
      have L2 : Heap.IsTuple (Shared.heap ⟨hp.push { cls := .type "tuple_iterator", data := .fields #[.ref a1, .int 0 0] }, g, d, tk, os⟩) a2 ys := Heap.IsTuple.push e2 _
      wp_walk using wpAny_pyIter_tuple L1, wpAny_pyIter_tuple L2
      exact ⟨_, rfl, h⟩
theorem call_zip {prog : Program} {w : World} {A : Around} {E : Value → Shared → Prop} {s : Shared} {k1 k2 : Knd} {a1 a2 : Addr} {xs ys : Array Value} {Q : Value → Shared → Prop} (h1 : k1.seq s.heap a1 xs) (h2 : k2.seq s.heap a2 ys)
    (h : ∀ h', ZAt h' k1 k2 s.heap.objs.size a1 a2 0 .none → (∀ c o, s.heap.get? c = some o → h'.get? c = some o) → Q (.ref (s.heap.objs.size + 4)) { s with heap := h' }) :
    wpAny (model prog w) A (call (.type "zip") [.ref a1, .ref a2]) Q E s := by
  refine callType_new F.called_zip (by decide) (F.typeCall_zip_2 _ _) (F.newCall_zip_2 _ _) (fun obj => F.args_object_init_3 obj _ _) F.entry_zip_new (zip_made k1 k2 a1 a2 xs ys) ⟨h1, h2, ?_⟩
  have z1 : (zh1 s.heap k1 a1).objs.size = s.heap.objs.size + 1 := Heap.size_push ..
  have z2 : (zh2 s.heap k1 k2 a1 a2).objs.size = s.heap.objs.size + 2 := by rw [Heap.size_push, z1]
  have z3 : (zh3 s.heap k1 k2 a1 a2).objs.size = s.heap.objs.size + 3 := by rw [Heap.size_push, z2]
  have z4 : (zh4 s.heap k1 k2 a1 a2).objs.size = s.heap.objs.size + 4 := by rw [Heap.size_push, z3]
  have g5 : (zh5 s.heap k1 k2 a1 a2).get? (zh4 s.heap k1 k2 a1 a2).objs.size = some _ := Heap.get?_push_size _ rfl
  have g4 : (zh5 s.heap k1 k2 a1 a2).get? (zh3 s.heap k1 k2 a1 a2).objs.size = some _ := Heap.get?_push_of_some _ (Heap.get?_push_size _ rfl)
  have g3 : (zh5 s.heap k1 k2 a1 a2).get? (zh2 s.heap k1 k2 a1 a2).objs.size = some _ := Heap.get?_push_of_some _ (Heap.get?_push_of_some _ (Heap.get?_push_size _ rfl))
  have g2 : (zh5 s.heap k1 k2 a1 a2).get? (zh1 s.heap k1 a1).objs.size = some _ := Heap.get?_push_of_some _ (Heap.get?_push_of_some _ (Heap.get?_push_of_some _ (Heap.get?_push_size _ rfl)))
  have g1 : (zh5 s.heap k1 k2 a1 a2).get? s.heap.objs.size = some _ := Heap.get?_push_of_some _ (Heap.get?_push_of_some _ (Heap.get?_push_of_some _ (Heap.get?_push_of_some _ (Heap.get?_push_size _ rfl))))
  show _ ∧ _
  rw [z2, z3, z4] at g5
  rw [z1, z2] at g3
  rw [z3] at g4; rw [z1] at g2; rw [z4]
  refine ⟨⟨_, g5, rfl⟩, h _ ⟨g5, g3, ⟨_, _, g4⟩, ?_, ?_⟩ fun c o x => Heap.get?_push_of_some _ (Heap.get?_push_of_some _ (Heap.get?_push_of_some _ (Heap.get?_push_of_some _ (Heap.get?_push_of_some _ x))))⟩
  · cases k1 <;> exact ⟨_, g1, rfl, rfl⟩
  · cases k2 <;> exact ⟨_, g2, rfl, rfl⟩
end L2
set_option Elab.async false
set_option linter.all false
set_option maxRecDepth 100000
set_option maxHeartbeats 2000000
namespace L2
open PySem PySem.Spec PyProof.Rows
section
variable {X : Cx} {pins : List (Addr × Obj)} {σ : St} {H : Hp} {s : Shared}
theorem fp_ne {k : Knd} {a b : Addr} {xs : List V} (I : Inv X pins σ H s) (f : FpOk X pins H b) (h : k.sq X.K H a xs) : a ≠ b := by
  rintro rfl
  have kb : ∀ o, X.K.lookup a = some o → False := fun o e => by
    have e' := I.ok.mod.kin a o e
    rcases f.2.2.2.1 with h | h
    · exact I.ok.noex a o e' h
    · exact absurd (Nat.lt_of_lt_of_le (Heap.lt_size e') (Nat.le_trans I.ok.bsz h)) (Nat.lt_irrefl _)
  cases k
  · rcases h with (h | ⟨o, h⟩) | ⟨o, its, n, hk, r⟩
    · have h' := f.1; rw [h] at h'; cases h'
    · have h' := f.1; rw [h] at h'; cases h'
    · exact kb o hk
  · rcases h with (h | ⟨o, h⟩) | ⟨o, its, n, hk, r⟩
    · have h' := f.1; rw [h] at h'; cases h'
    · have h' := f.1; rw [h] at h'; cases h'
    · exact kb o hk
theorem Inv.knd {k : Knd} {a : Addr} {xs : List V} (I : Inv X pins σ H s) (h : k.sq X.K H a xs) : ∃ its : List Value, Vals xs its ∧ k.seq s.heap a its.toArray := by
  cases k
  · obtain ⟨its, r, p, _⟩ := I.list h
    exact ⟨its, r, p.isList⟩
  · obtain ⟨its, r, p, _⟩ := I.tuple h
    exact ⟨its, r, p⟩
theorem Inv.knd_inj {k : Knd} {a : Addr} {xs ys : List V} (I : Inv X pins σ H s) (h : k.sq X.K H a xs) (h' : k.sq X.K H a ys) : xs = ys := by
  cases k
  · exact I.list_inj h h'
  · exact I.tuple_inj h h'
end
noncomputable def Itz (K : PySem.W.Frag) (k1 k2 : Knd) (a1 a2 : Addr) : It :=
  ⟨fun i H => ∃ xs ys x y, k1.sq K H a1 xs ∧ k2.sq K H a2 ys ∧ xs[i]? = some x ∧ ys[i]? = some y,
   fun i H x H' => ∃ p u v, x = .ref p ∧ H p = none ∧ H' = upd H p (.tup [u, v]) ∧ (∀ xs, k1.sq K H a1 xs → xs[i]? = some u) ∧ ∀ ys, k2.sq K H a2 ys → ys[i]? = some v,
   fun i H => ∃ xs ys, k1.sq K H a1 xs ∧ k2.sq K H a2 ys ∧ (xs.length ≤ i ∨ ys.length ≤ i)⟩
theorem turn_zip {P : Program} {w : World} {K : PySem.W.Frag} {els : List Expr} {x1 : Nat} {tpos : Pos} (k1 k2 : Knd) (n a1 a2 : Addr) :
    Turn P w K (.Tuple els x1 tpos) (Itz K k1 k2 a1 a2) (zfp n) (n + 4) (fun i h => ZAt h k1 k2 n a1 a2 i .none) where
  mem := .head _
  obj := fun i h Z b hb => by
    obtain ⟨hz, hTI, ⟨a, b', hTO⟩, g1, g2⟩ := Z
    obtain ⟨o1, e1, _, d1⟩ := Knd.it_obj (k := k1) g1
    obtain ⟨o2, e2, _, d2⟩ := Knd.it_obj (k := k2) g2
    unfold zfp at hb
    simp only [List.mem_cons, List.not_mem_nil, or_false] at hb
    rcases hb with rfl | rfl | rfl | rfl | rfl
    · exact ⟨_, hz, fun v z => by cases z⟩
    · exact ⟨_, hTI, fun v z => by cases z⟩
    · exact ⟨_, hTO, fun v z => by cases z⟩
    · exact ⟨_, e1, fun v z => by rw [d1] at z; cases z⟩
    · exact ⟨_, e2, fun v z => by rw [d2] at z; cases z⟩
  keep := fun i h h' Z k => by
    obtain ⟨hz, hTI, ⟨a, b', hTO⟩, g1, g2⟩ := Z
    have p0 : n ∈ zfp n := .tail _ (.tail _ (.tail _ (.head _)))
    have p1 : n + 1 ∈ zfp n := .tail _ (.tail _ (.tail _ (.tail _ (.head _))))
    exact ⟨k _ (.head _) _ hz, k _ (.tail _ (.head _)) _ hTI, ⟨a, b', k _ (.tail _ (.tail _ (.head _))) _ hTO⟩, Knd.it_at (k := k1) g1 fun o e => k _ p0 o e, Knd.it_at (k := k2) g2 fun o e => k _ p1 o e⟩
  item := by
    intro X hP hw hK hc i pins s σ H E I hf Z hg
    subst hP hw hK
    obtain ⟨xs, ys, x, y, q1, q2, hx, hy⟩ := hg
    obtain ⟨its, r1, e1⟩ := I.knd q1
    obtain ⟨jts, r2, e2⟩ := I.knd q2
    obtain ⟨u, hu, ru⟩ := r1.get hx
    obtain ⟨v, hv, rv⟩ := r2.get hy
    have fl : ∀ b ∈ zfp n, b < s.heap.objs.size := fun b hb => by
      obtain ⟨hz, hTI, ⟨a, b', hTO⟩, g1, g2⟩ := id Z
      obtain ⟨o1, e1, _⟩ := Knd.it_obj (k := k1) g1
      obtain ⟨o2, e2, _⟩ := Knd.it_obj (k := k2) g2
      unfold zfp at hb
      simp only [List.mem_cons, List.not_mem_nil, or_false] at hb
      rcases hb with rfl | rfl | rfl | rfl | rfl
      · exact Heap.lt_size hz
      · exact Heap.lt_size hTI
      · exact Heap.lt_size hTO
      · exact Heap.lt_size e1
      · exact Heap.lt_size e2
    refine zip_item Z (fun hb => fp_ne I (hf _ hb) q1 rfl) (fun hb => fp_ne I (hf _ hb) q2 rfl) e1 e2 (x := u) (y := v) (by simpa using hu) (by simpa using hv) fun h' Z' hT hk => ?_
    refine ⟨.ref s.heap.objs.size, rfl, wpAny_letOwnedTupleGo_zip (s := { s with heap := h' }) Z'.z fun h'' z'' sb => ?_⟩
    have I1 : Inv X pins σ (upd H s.heap.objs.size (.tup [x, y])) { s with heap := s.heap.push { cls := .type "tuple", data := .seq #[u, v] }, toks := s.toks } :=
      I.laid (fun b o e => Heap.get?_push_of_some _ e) (Nat.le_refl _) ⟨by show 2 ≤ sizeLine; decide, [u, v], .cons ru (.cons rv .nil), ⟨_, Heap.get?_push_size _ rfl, rfl, _, rfl⟩⟩
    have none' : ∀ b ∈ zfp n, upd H s.heap.objs.size (.tup [x, y]) b = none := fun b hb => by
      rw [upd_ne (Nat.ne_of_lt (fl b hb))]; exact (hf b hb).1
    have I2 : Inv X pins σ (upd H s.heap.objs.size (.tup [x, y])) { s with heap := h'' } := Inv.turnedL (s := { s with heap := s.heap.push { cls := .type "tuple", data := .seq #[u, v] }, toks := s.toks }) (fp := zfp n) (t' := s.toks) I1 (fun b o hb e => by
      have hb4 : b ≠ n + 4 := fun z => hb (by rw [z]; exact .head _)
      refine sb.extBut _ _ hb4 ?_
      rcases Heap.get?_push_cases e with ⟨z, z2⟩ | e
      · rw [z, z2]; exact hT
      · exact hk b o hb e) fun b hb => ⟨none' b hb, (hf b hb).2⟩
    obtain ⟨_, zt, ⟨a, b', zo⟩, g1, g2⟩ := Z'
    have ne : ∀ k : Nat, k < 4 → n + k ≠ n + 4 := fun k hk e => absurd (Nat.add_left_cancel e) (Nat.ne_of_lt hk)
    exact ⟨.ref s.heap.objs.size, _, I2, rfl, ⟨_, x, y, rfl, I.fresh, rfl, fun zs hz => by rw [I.knd_inj hz q1]; exact hx, fun zs hz => by rw [I.knd_inj hz q2]; exact hy⟩,
      ⟨z'', sb.extBut _ _ (ne 2 (by decide)) zt, ⟨a, b', sb.extBut _ _ (ne 3 (by decide)) zo⟩, Knd.it_at (k := k1) g1 fun o e => sb.extBut _ _ (ne 0 (by decide)) e, Knd.it_at (k := k2) g2 fun o e => sb.extBut _ _ (ne 1 (by decide)) e⟩, none'⟩
  done := by
    intro X hP hw hK hc i pins s σ H E I hf Z hg
    subst hP hw hK
    obtain ⟨xs, ys, q1, q2, hx⟩ := hg
    obtain ⟨its, r1, e1⟩ := I.knd q1
    obtain ⟨jts, r2, e2⟩ := I.knd q2
    have l1 := r1.length
    have l2 := r2.length
    refine zip_end (I.ok.hd hc) Z (fun hb => fp_ne I (hf _ hb) q1 rfl) (fun hb => fp_ne I (hf _ hb) q2 rfl) e1 e2 (hx.imp (fun h => by simp; omega) (fun h => by simp; omega)) fun h' hk => ⟨rfl, I.turnedL (t' := s.toks) hk hf⟩
  self := fun _ _ _ _ _ Z h => wpAny_pyIter_zip Z.z h
section
variable {X : Cx} {els : List Expr} {x1 : Nat} {tpos : Pos}
noncomputable def iZip (k1 k2 : Knd) (K : PySem.W.Frag) (ta : TA) : TI := fun σ H R => ta σ H fun vs H1 => ∃ a1 a2, vs = [.ref a1, .ref a2] ∧ (∃ xs, k1.sq K H1 a1 xs) ∧ (∃ ys, k2.sq K H1 a2 ys) ∧ R (Itz K k1 k2 a1 a2) H1
theorem pi_zip (k1 k2 : Knd) {a b : Expr} {ta : TA} {p pos : Pos} (hg : Gl X "zip") (hm : X.mg "zip" = none) (ha : PA X [a, b] ta) (hs : plainE a = true := by rfl) (hs2 : plainE b = true := by rfl) :
    PI X (.Tuple els x1 tpos) (.Call (.Name "zip" p) [a, b] [] pos) (iZip k1 k2 X.K ta) := by
  intro pins s σ H R I h
  refine wpAny_Call_Name_kw (ld_blt I hg hm PyProof.Rows.Boot.«zip» ?_)
  refine PyProof.Rows.callWith_type1 (thn (ha pos pins s σ H _ I h) fun us s1 h1 => ?_) (star_plain hs) (any_plain (by rw [List.all_cons, hs2]; rfl))
  obtain ⟨vs, H1, I1, r, a1, a2, rfl, ⟨xs, q1⟩, ⟨ys, q2⟩, q⟩ := h1
  obtain ⟨u, v, rfl, ru, rv⟩ := vals2 r
  cases ru; cases rv
  obtain ⟨its, r1, e1⟩ := I1.knd q1
  obtain ⟨jts, r2, e2⟩ := I1.knd q2
  refine call_zip e1 e2 fun h' Z hk => wpAny_pyIter_zip Z.z ?_
  refine ⟨s1.heap.objs.size + 4, zfp s1.heap.objs.size, _, _, H1, rfl, I1.kept (t' := s1.toks) hk, turn_zip k1 k2 _ a1 a2, Z, fun b hb => ?_, q⟩
  have hle : s1.heap.objs.size ≤ b := by
    unfold zfp at hb
    simp only [List.mem_cons, List.not_mem_nil, or_false] at hb
    rcases hb with rfl | rfl | rfl | rfl | rfl
    · exact Nat.le_add_right _ _
    · exact Nat.le_add_right _ _
    · exact Nat.le_add_right _ _
    · exact Nat.le_refl _
    · exact Nat.le_add_right _ _
  exact I1.fpOk hle (I1.hok.fresh hle)
end
end L2
set_option Elab.async false
set_option linter.all false
set_option maxRecDepth 100000
set_option maxHeartbeats 2000000
namespace L2
open PySem PySem.Spec PyProof.Rows
theorem Same.new {H : Hp} {p : Addr} {o : HO} (h : H p = none) : Same H (L2.upd H p o) := fun b u e => by
  rw [upd_ne (ne_of_none e h)]; exact e
theorem Same.upd {H H1 : Hp} {p : Addr} {o : HO} (s : Same H H1) (h : H p = none) : Same H (L2.upd H1 p o) := fun b u e => by
  rw [upd_ne (ne_of_none e h)]; exact s b u e
theorem Same.knd {k : Knd} {K : PySem.W.Frag} {H H' : Hp} {a : Addr} {xs : List V} (S : Same H H') (h : k.sq K H a xs) : k.sq K H' a xs := by
  cases k <;> rcases h with (h | ⟨o, h⟩) | h <;> first | exact .inl (.inl (S _ _ h)) | exact .inl (.inr ⟨o, S _ _ h⟩) | exact .inr h
section
variable {X : Cx}
theorem CompOk.caps {scope sc : Scope} {lv : Nat} {caps : List Nat} {N' : List Str} (kind : scope.kind = .function) (h : ∀ y ∈ scope.names, y.2 ≠ .cell) (hf : ∀ y ∈ scope.names, y.2 = .free → sc.names.lookup y.1 = some .cell ∨ sc.names.lookup y.1 = some .free)
    (loc : ∀ y ∈ scope.names, y.2 = .local → scope.names.lookup y.1 = some .local) (e : X.env.scope = sc) (len : N'.length = lv + caps.length)
    (cap : ∀ (p : Nat) (j : Nat), caps[p]? = some j → ∃ x, N'[lv + p]? = some x ∧ X.N[j]? = some x ∧ scope.names.lookup x = some .free) : CompOk X scope lv caps N' :=
  ⟨kind, h, fun y hy hz => by have := hf y hy hz; rw [← e] at this; exact this, loc, len, cap⟩
theorem pg_tupK {es : List Expr} {k : Nat} {t : TGs} {n : Nat} {pos : Pos} (K : PySem.W.Frag) (hc : X.calm = true) (h : PGs X es t) (hK : X.K = K := by rfl)
    (hn : (assignEach es X.env).length = n := by rfl) (hst : (assignEach es X.env).findIdx? (·.1) = none := by rfl) : PG X (.Tuple es k pos) (gTup K n t) := hK ▸ pg_tup hc h hn hst
end
section
variable {K : PySem.W.Frag} {g : TG} {te : TE} {σ0 : St} {H1 : Hp} {Q : VK}
theorem comp_each {J : It} (n : Nat) (hl : n < sizeLine) (f : Nat → V) (go : ∀ i H', i < n → Same H1 H' → J.go i H') (stop : ∀ H', Same H1 H' → J.stop n H')
    (step : ∀ i x (H' H'' : Hp) (Q' : VK), i < n → Same H1 H' → J.yld i H' x H'' → (∀ H2, Same H' H2 → Q' (f i) H2) → g x σ0 H'' fun σ2 H2 => te σ2 H2 Q')
    (fin : ∀ D H', H1 D = none → Same H1 H' → H' D = some (.lst ((List.range n).map f)) → Q (.ref D) H') : compW J g te σ0 Q H1 := by
  intro D hD
  refine ⟨fun i m ys H' => i ≤ n ∧ m = n - i ∧ ys = (List.range i).map f ∧ Same H1 H' ∧ H' D = some (.lst ys), ⟨_, Nat.zero_le _, rfl, rfl, Same.new hD, upd_same⟩, ?_⟩
  rintro i m ys H' ⟨hi, rfl, rfl, S, e⟩
  refine ⟨e, by rw [List.length_map, List.length_range]; omega, ?_⟩
  by_cases hlt : i < n
  · refine .inr ⟨go i H' hlt S, fun x H'' hy => step i x H' H'' _ hlt S hy fun H2 S2 => ⟨S2 _ _ e, n - (i + 1), by omega, hlt, rfl, ?_, (S.trans S2).upd hD, upd_same⟩⟩
    rw [List.range_succ, List.map_append]; rfl
  · have ei : i = n := by omega
    subst ei
    exact .inl ⟨stop H' S, fin D H' hD S e⟩
theorem comp_seq {k : Knd} {J : It} {a : Addr} {xs : List V} (hJ : J = match k with | .L => Itl K a | .T => Itt K a) (hq : k.sq K H1 a xs) (hl : xs.length < sizeLine) (f : V → V)
    (step : ∀ x ∈ xs, ∀ (H' : Hp) (Q' : VK), Same H1 H' → (∀ H2, Same H' H2 → Q' (f x) H2) → g x σ0 H' fun σ2 H2 => te σ2 H2 Q')
    (fin : ∀ D H', H1 D = none → Same H1 H' → H' D = some (.lst (xs.map f)) → Q (.ref D) H') : compW J g te σ0 Q H1 := by
  have hm : (List.range xs.length).map (fun i => f (xs.getD i .non)) = xs.map f := by
    apply List.ext_getElem?
    intro i
    simp only [List.getElem?_map, List.getElem?_range, List.getD_eq_getElem?_getD]
    by_cases h : i < xs.length
    · rw [List.getElem?_eq_getElem h, List.getElem?_range h]; simp [h]
    · rw [List.getElem?_eq_none (show (List.range xs.length).length ≤ i by rw [List.length_range]; omega), List.getElem?_eq_none (show xs.length ≤ i by omega)]; rfl
  have at' : ∀ {i : Nat} (h : i < xs.length), xs[i]? = some (xs.getD i .non) := fun {i} h => by rw [List.getD_eq_getElem?_getD, List.getElem?_eq_getElem h]; rfl
  subst hJ
  cases k
  · refine comp_each xs.length hl (fun i => f (xs.getD i .non)) (fun i H' h S => ⟨xs, _, S.knd (k := .L) hq, at' h⟩) (fun H' S => ⟨xs, S.knd (k := .L) hq, Nat.le_refl _⟩) (fun i x H' H'' Q' h S hy q => ?_) (fun D H' hD S e => fin D H' hD S (by rw [← hm]; exact e))
    obtain ⟨rfl, hx⟩ := hy
    have hx := hx xs (S.knd (k := .L) hq)
    have e : xs.getD i .non = x := by rw [List.getD_eq_getElem?_getD, hx]; rfl
    rw [e] at q
    exact step x (List.mem_of_getElem? hx) _ Q' S q
  · refine comp_each xs.length hl (fun i => f (xs.getD i .non)) (fun i H' h S => ⟨xs, _, S.knd (k := .T) hq, at' h⟩) (fun H' S => ⟨xs, S.knd (k := .T) hq, Nat.le_refl _⟩) (fun i x H' H'' Q' h S hy q => ?_) (fun D H' hD S e => fin D H' hD S (by rw [← hm]; exact e))
    obtain ⟨rfl, hx⟩ := hy
    have hx := hx xs (S.knd (k := .T) hq)
    have e : xs.getD i .non = x := by rw [List.getD_eq_getElem?_getD, hx]; rfl
    rw [e] at q
    exact step x (List.mem_of_getElem? hx) _ Q' S q
theorem comp_L {a : Addr} {xs : List V} (hq : SqL K H1 a xs) (hl : xs.length < sizeLine) (f : V → V)
    (step : ∀ x ∈ xs, ∀ (H' : Hp) (Q' : VK), Same H1 H' → (∀ H2, Same H' H2 → Q' (f x) H2) → g x σ0 H' fun σ2 H2 => te σ2 H2 Q')
    (fin : ∀ D H', H1 D = none → Same H1 H' → H' D = some (.lst (xs.map f)) → Q (.ref D) H') : compW (Itl K a) g te σ0 Q H1 := comp_seq (k := .L) rfl hq hl f step fin
theorem comp_T {a : Addr} {xs : List V} (hq : SqT K H1 a xs) (hl : xs.length < sizeLine) (f : V → V)
    (step : ∀ x ∈ xs, ∀ (H' : Hp) (Q' : VK), Same H1 H' → (∀ H2, Same H' H2 → Q' (f x) H2) → g x σ0 H' fun σ2 H2 => te σ2 H2 Q')
    (fin : ∀ D H', H1 D = none → Same H1 H' → H' D = some (.lst (xs.map f)) → Q (.ref D) H') : compW (Itt K a) g te σ0 Q H1 := comp_seq (k := .T) rfl hq hl f step fin
theorem comp_zip {k1 k2 : Knd} {a1 a2 : Addr} {xs ys : List V} (q1 : k1.sq K H1 a1 xs) (q2 : k2.sq K H1 a2 ys) (hle : xs.length = ys.length) (hl : xs.length < sizeLine) (f : Nat → V)
    (step : ∀ i x y, xs[i]? = some x → ys[i]? = some y → ∀ (p : Addr) (H' : Hp) (Q' : VK), Same H1 H' → H' p = some (.tup [x, y]) → (∀ H2, Same H' H2 → Q' (f i) H2) → g (.ref p) σ0 H' fun σ2 H2 => te σ2 H2 Q')
    (fin : ∀ D H', H1 D = none → Same H1 H' → H' D = some (.lst ((List.range xs.length).map f)) → Q (.ref D) H') : compW (Itz K k1 k2 a1 a2) g te σ0 Q H1 := by
  refine comp_each xs.length hl f (fun i H' h S => ⟨xs, ys, _, _, S.knd q1, S.knd q2, List.getElem?_eq_getElem h, List.getElem?_eq_getElem (by omega)⟩) (fun H' S => ⟨xs, ys, S.knd q1, S.knd q2, .inl (Nat.le_refl _)⟩) (fun i x H' H'' Q' h S hy q => ?_) fin
  obtain ⟨p, u, v, rfl, hp, rfl, hu, hv⟩ := hy
  have N := Same.new (o := .tup [u, v]) hp
  exact step i u v (hu xs (S.knd q1)) (hv ys (S.knd q2)) p _ Q' (S.trans N) upd_same fun H2 S2 => q H2 (N.trans S2)
end
end L2
set_option Elab.async false
set_option linter.all false
set_option maxRecDepth 100000
set_option maxHeartbeats 2000000
namespace L2
open PySem PySem.Spec PyProof.Rows
theorem for_zip {K : PySem.W.Frag} {k1 k2 : Knd} {a1 a2 : Addr} {xs ys : List V} {g : TG} {tb : TS} {D : Ends} {σ : St} {H : Hp} (Pv : Nat → St → Hp → Prop) (h0 : Pv 0 σ H) (hl : ∀ i σ H, Pv i σ H → k1.sq K H a1 xs ∧ k2.sq K H a2 ys)
    (hs : ∀ i x y p σ H, xs[i]? = some x → ys[i]? = some y → Pv i σ H → H p = none → g (.ref p) σ (upd H p (.tup [x, y])) fun σ2 H2 => tb { D with nx := Pv (i + 1), ct := Pv (i + 1), bk := D.nx } σ2 H2)
    (hd : ∀ σ H, Pv (min xs.length ys.length) σ H → D.nx σ H) :
    ∃ W : Nat → Nat → St → Hp → Prop, (∃ m, W 0 m σ H) ∧ ∀ i m σ H, W i m σ H →
      ((Itz K k1 k2 a1 a2).stop i H ∧ D.nx σ H) ∨ ((Itz K k1 k2 a1 a2).go i H ∧ ∃ N : St → Hp → Prop, (∀ σ' H', N σ' H' → ∃ m', m' < m ∧ W (i + 1) m' σ' H') ∧ ∀ x H', (Itz K k1 k2 a1 a2).yld i H x H' → g x σ H' fun σ2 H2 => tb { D with nx := N, ct := N, bk := D.nx } σ2 H2) := by
  refine ⟨fun i m σ H => m = min xs.length ys.length - i ∧ i ≤ min xs.length ys.length ∧ Pv i σ H, ⟨_, rfl, Nat.zero_le _, h0⟩, ?_⟩
  rintro i m σ H ⟨rfl, hi, p⟩
  obtain ⟨q1, q2⟩ := hl i σ H p
  by_cases hlt : i < min xs.length ys.length
  · have l1 : i < xs.length := Nat.lt_of_lt_of_le hlt (Nat.min_le_left ..)
    have l2 : i < ys.length := Nat.lt_of_lt_of_le hlt (Nat.min_le_right ..)
    refine .inr ⟨⟨xs, ys, _, _, q1, q2, List.getElem?_eq_getElem l1, List.getElem?_eq_getElem l2⟩, Pv (i + 1), fun σ' H' n => ⟨_, by omega, rfl, hlt, n⟩, fun x H' hy => ?_⟩
    obtain ⟨a, u, v, rfl, ha, rfl, hu, hv⟩ := hy
    exact hs i u v a σ H (hu xs q1) (hv ys q2) p ha
  · have e : i = min xs.length ys.length := by omega
    subst e
    refine .inl ⟨⟨xs, ys, q1, q2, ?_⟩, hd σ H p⟩
    rcases Nat.le_total xs.length ys.length with h | h
    · exact .inl (by rw [Nat.min_eq_left h]; exact Nat.le_refl _)
    · exact .inr (by rw [Nat.min_eq_right h]; exact Nat.le_refl _)
section
variable {X : Cx}
end
end L2
set_option Elab.async false
set_option linter.all false
set_option maxRecDepth 100000
set_option maxHeartbeats 2000000
namespace L2
open PySem PySem.Spec PyProof.Rows
noncomputable def Ite (K : PySem.W.Frag) (a : Addr) : It :=
  ⟨fun i H => ∃ xs x, SqL K H a xs ∧ xs[i]? = some x,
   fun i H x H' => ∃ p u, x = .ref p ∧ H p = none ∧ H' = upd H p (.tup [.int (i : Int), u]) ∧ ∀ xs, SqL K H a xs → xs[i]? = some u,
   fun i H => ∃ xs, SqL K H a xs ∧ xs.length ≤ i⟩
structure EAt (h : Heap) (n a : Addr) (i : Nat) : Prop where
  en : ∃ old, IsEnum h (n + 1) n (i : Int) old
  it : h.IsListIter n a i
noncomputable def efp (n : Addr) : List Addr := [n + 1, n]
theorem turn_enum {P : Program} {w : World} {K : PySem.W.Frag} {els : List Expr} {x1 : Nat} {tpos : Pos} (n a : Addr) :
    Turn P w K (.Tuple els x1 tpos) (Ite K a) (efp n) (n + 1) (fun i h => EAt h n a i) where
  mem := .head _
  obj := fun i h Z b hb => by
    obtain ⟨⟨old, he⟩, oi, hi, _, di⟩ := Z
    unfold efp at hb
    simp only [List.mem_cons, List.not_mem_nil, or_false] at hb
    rcases hb with rfl | rfl
    · exact ⟨_, he, fun v z => by cases z⟩
    · exact ⟨_, hi, fun v z => by rw [di] at z; cases z⟩
  keep := fun i h h' Z k => by
    obtain ⟨⟨old, he⟩, oi, hi, r⟩ := Z
    exact ⟨⟨old, k _ (.head _) _ he⟩, oi, k _ (.tail _ (.head _)) _ hi, r⟩
  item := by
    intro X hP hw hK hc i pins s σ H E I hf Z hg
    subst hP hw hK
    obtain ⟨xs, x, q1, hx⟩ := hg
    obtain ⟨its, r1, e1⟩ := I.knd (k := .L) q1
    obtain ⟨u, hu, ru⟩ := r1.get hx
    have fl : ∀ b ∈ efp n, b < s.heap.objs.size := fun b hb => by
      obtain ⟨⟨old, he⟩, oi, hi, _⟩ := id Z
      unfold efp at hb
      simp only [List.mem_cons, List.not_mem_nil, or_false] at hb
      rcases hb with rfl | rfl
      · exact Heap.lt_size he
      · exact Heap.lt_size hi
    obtain ⟨⟨old, he⟩, hit⟩ := id Z
    refine wpAny_pyNext_enum_item he hit e1 (x := u) (by simpa using hu) (Nat.succ_ne_self n) fun h' ho hit' hT hz hk => ?_
    refine ⟨.ref s.heap.objs.size, rfl, wpAny_letOwnedTupleGo_enum (s := { s with heap := h', toks := s.toks + 1 }) ho fun h'' he'' sb => ?_⟩
    have sb : Heap.SameBut (n + 1) h' h'' := sb
    have n1 : n + 1 ∈ efp n := .head _
    have n0 : n ∈ efp n := .tail _ (.head _)
    have I1 : Inv X pins σ (upd H s.heap.objs.size (.tup [.int (i : Int), x])) { s with heap := s.heap.push { cls := .type "tuple", data := .seq #[.int i s.toks, u] }, toks := s.toks } :=
      I.laid (fun b o e => Heap.get?_push_of_some _ e) (Nat.le_refl _) ⟨by show 2 ≤ sizeLine; decide, [.int i s.toks, u], .cons ⟨_, rfl⟩ (.cons ru .nil), ⟨_, Heap.get?_push_size _ rfl, rfl, _, rfl⟩⟩
    have none' : ∀ b ∈ efp n, upd H s.heap.objs.size (.tup [.int (i : Int), x]) b = none := fun b hb => by
      rw [upd_ne (Nat.ne_of_lt (fl b hb))]; exact (hf b hb).1
    have I2 : Inv X pins σ (upd H s.heap.objs.size (.tup [.int (i : Int), x])) { s with heap := h'', toks := s.toks + 1 } := Inv.turnedL (s := { s with heap := s.heap.push { cls := .type "tuple", data := .seq #[.int i s.toks, u] }, toks := s.toks }) (fp := efp n) (t' := s.toks + 1) I1 (fun b o hb e => by
      have hb4 : b ≠ n + 1 := fun z => hb (by rw [z]; exact n1)
      have hb0 : b ≠ n := fun z => hb (by rw [z]; exact n0)
      refine sb.extBut _ _ hb4 ?_
      rcases Heap.get?_push_cases e with ⟨z, z2⟩ | e
      · rw [z, z2]; exact hT
      · exact hk b o hb4 hb0 e) fun b hb => ⟨none' b hb, (hf b hb).2⟩
    exact ⟨.ref s.heap.objs.size, _, I2, rfl, ⟨_, x, rfl, I.fresh, rfl, fun zs hz => by rw [I.knd_inj (k := .L) hz q1]; exact hx⟩, ⟨⟨_, he''⟩, hit'.extBut sb.extBut (Ne.symm (Nat.succ_ne_self n))⟩, none'⟩
  done := by
    intro X hP hw hK hc i pins s σ H E I hf Z hg
    subst hP hw hK
    obtain ⟨xs, q1, hx⟩ := hg
    obtain ⟨its, r1, e1⟩ := I.knd (k := .L) q1
    have l1 := r1.length
    obtain ⟨⟨old, he⟩, hit⟩ := id Z
    refine wpAny_pyNext_enum_end (I.ok.hd hc) he hit e1 (by simp; omega) fun h' hk => ⟨rfl, I.turnedL (fp := efp n) (t' := s.toks) (fun b o hb e => hk b o (fun z => hb (by rw [z]; exact .tail _ (.head _))) e) hf⟩
  self := fun _ _ _ _ _ Z h => by
    obtain ⟨⟨old, he⟩, _⟩ := Z
    exact wpAny_pyIter_enum he h
section
variable {X : Cx} {els : List Expr} {x1 : Nat} {tpos : Pos}
noncomputable def iEnum (K : PySem.W.Frag) (ta : TA) : TI := fun σ H R => ta σ H fun vs H1 => ∃ a, vs = [.ref a] ∧ (∃ xs, SqL K H1 a xs) ∧ R (Ite K a) H1
theorem pi_enum {a : Expr} {ta : TA} {p pos : Pos} (hg : Gl X "enumerate") (hm : X.mg "enumerate" = none) (ha : PA X [a] ta) (hs : plainE a = true := by rfl) :
    PI X (.Tuple els x1 tpos) (.Call (.Name "enumerate" p) [a] [] pos) (iEnum X.K ta) := by
  intro pins s σ H R I h
  refine wpAny_Call_Name_kw (ld_blt I hg hm PyProof.Rows.Boot.«enumerate» ?_)
  refine PyProof.Rows.callWith_type1 (thn (ha pos pins s σ H _ I h) fun us s1 h1 => ?_) (star_plain hs) (any_plain rfl)
  obtain ⟨vs, H1, I1, r, a1, rfl, ⟨xs, q1⟩, q⟩ := h1
  obtain ⟨u, rfl, ru⟩ := vals1 r
  cases ru
  obtain ⟨its, r1, e1⟩ := I1.knd (k := .L) q1
  refine call_enumerate_list e1 fun h' he hit hz hk => wpAny_pyIter_enum he ?_
  refine ⟨s1.heap.objs.size + 1, efp s1.heap.objs.size, _, _, H1, rfl, I1.kept (t' := s1.toks) hk, turn_enum _ a1, ⟨⟨_, he⟩, hit⟩, fun b hb => ?_, q⟩
  have hle : s1.heap.objs.size ≤ b := by
    unfold efp at hb
    simp only [List.mem_cons, List.not_mem_nil, or_false] at hb
    rcases hb with rfl | rfl
    · exact Nat.le_add_right _ _
    · exact Nat.le_refl _
  exact I1.fpOk hle (I1.hok.fresh hle)
end
theorem for_enum {K : PySem.W.Frag} {a : Addr} {xs : List V} {g : TG} {tb : TS} {D : Ends} {σ : St} {H : Hp} (Pv : Nat → St → Hp → Prop) (h0 : Pv 0 σ H) (hl : ∀ i σ H, Pv i σ H → SqL K H a xs)
    (hs : ∀ i x p σ H, xs[i]? = some x → Pv i σ H → H p = none → g (.ref p) σ (upd H p (.tup [.int (i : Int), x])) fun σ2 H2 => tb { D with nx := Pv (i + 1), ct := Pv (i + 1), bk := D.nx } σ2 H2)
    (hd : ∀ σ H, Pv xs.length σ H → D.nx σ H) :
    ∃ W : Nat → Nat → St → Hp → Prop, (∃ m, W 0 m σ H) ∧ ∀ i m σ H, W i m σ H →
      ((Ite K a).stop i H ∧ D.nx σ H) ∨ ((Ite K a).go i H ∧ ∃ N : St → Hp → Prop, (∀ σ' H', N σ' H' → ∃ m', m' < m ∧ W (i + 1) m' σ' H') ∧ ∀ x H', (Ite K a).yld i H x H' → g x σ H' fun σ2 H2 => tb { D with nx := N, ct := N, bk := D.nx } σ2 H2) := by
  refine ⟨fun i m σ H => m = xs.length - i ∧ i ≤ xs.length ∧ Pv i σ H, ⟨_, rfl, Nat.zero_le _, h0⟩, ?_⟩
  rintro i m σ H ⟨rfl, hi, p⟩
  have q1 := hl i σ H p
  by_cases hlt : i < xs.length
  · refine .inr ⟨⟨xs, _, q1, List.getElem?_eq_getElem hlt⟩, Pv (i + 1), fun σ' H' n => ⟨_, by omega, rfl, hlt, n⟩, fun x H' hy => ?_⟩
    obtain ⟨a, u, rfl, ha, rfl, hu⟩ := hy
    exact hs i u a σ H (hu xs q1) p ha
  · have e : i = xs.length := by omega
    subst e
    exact .inl ⟨⟨xs, q1, Nat.le_refl _⟩, hd σ H p⟩
end L2
set_option Elab.async false
set_option linter.all false
set_option maxRecDepth 100000
set_option maxHeartbeats 2000000
namespace L2
open PySem PySem.Spec PyProof.Rows
section
variable {M : Model} {A : Around} {E : Value → Shared → Prop} {s : Shared}
theorem mark_set {base : Heap} {l : List Env} {e : Addr} {cls a0 fl : Value} {fo : Option Addr} {Q : Unit → Shared → Prop} (hkb : base.StaysIn s.heap) (hl : s.heap.FunFrames base l) (ht : s.heap.TracedAtW base e cls a0 fl)
    (h : ∀ h' fl', base.StaysIn h' → h'.FunFrames base l → h'.TracedAtW base e cls a0 fl' → s.heap.UpToSlots h' → Q () { s with heap := h' }) : wpAny M A (setFlight (.ref e) fo) Q E s := by
  obtain ⟨oe, vs, T, oT, ts, he, hcls, hd, h1, hnT, hTe, hT, hdT, h3⟩ := ht
  have z3 : 3 < ts.size := (Array.getElem?_eq_some_iff.mp h3).1
  have ot : ∀ b, b ≠ T → (s.heap.update T (Obj.mapFields (·.setIfInBounds 3 (fo.elim Value.none fun f => rawInt f)))).get? b = s.heap.get? b := fun b hb => Heap.get?_update_other _ _ (Ne.symm hb)
  have nr : ∀ b o, s.heap.get? b = some o → (∀ vs, o.data ≠ .fields vs) → b ≠ T := fun b o hb hnf q => by rw [q, hT] at hb; cases hb; exact hnf ts hdT
  unfold setFlight; refine wpAny_bind (wpAny_field he hd h1 ?_); rw [if_pos (show (Value.ref T != Value.none) = true from by simp)]
  refine wpAny_setField hT hdT z3 (h _ (fo.elim Value.none fun f => rawInt f) (fun b o hbo => (ot b fun q => by rw [q, hnT] at hbo; cases hbo).trans (hkb b o hbo)) (hl.of_keeps fun b o hb hnf => ⟨o, (ot b (nr b o hb hnf)).trans hb, rfl⟩) ?_ fun b o hb hnf => ⟨o.slots, (ot b (nr b o hb hnf)).trans hb⟩)
  exact ⟨oe, vs, T, _, _, (ot e (Ne.symm hTe)).trans he, hcls, hd, h1, hnT, hTe, Heap.get?_update_self _ hT (Obj.isFreed_of_fields (Obj.data_mapFields hdT _)), Obj.data_mapFields hdT _, by simp [z3]⟩
theorem passed_on {α : Type} {what : String} {cenv : Env} {base : Heap} {l : List Env} {e : Addr} {cls a0 fl : Value} {Q : α → Shared → Prop} (hkb : base.StaysIn s.heap) (hl : s.heap.FunFrames base l) (ht : s.heap.TracedAtW base e cls a0 fl)
    (h : ∀ h' fl', base.StaysIn h' → h'.FunFrames base l → h'.TracedAtW base e cls a0 fl' → s.heap.UpToSlots h' → E (.ref e) { s with heap := h' }) : wpAny M A (PySem.passOn what (.ref e) cenv : Sem α) Q E s := by
  obtain ⟨oe, vs, T, oT, ts, he, hcls, hd, h1, hnT, hTe, hT, hdT, h3⟩ := id ht
  unfold PySem.passOn
  refine wpAny_bind (wpAny_field he hd h1 ?_)
  rw [if_neg (show ¬ ((Value.ref T == Value.none) = true) from Bool.false_ne_true)]
  exact wpAny_bind (mark_set hkb hl ht fun h' fl' k1 k2 k3 k4 => wpAny_throw (h h' fl' k1 k2 k3 k4))
theorem leaves_any {base : Heap} {env : Env} {outer : List Env} {L e : Addr} {cls a0 fl : Value} {Q : Unit → Shared → Prop} (hfr : A.frames = some (env :: outer)) (hf : env.frame = some L) (hkb : base.StaysIn s.heap) (hen : base.get? e = none)
    (hl : s.heap.FunFrames base (env :: outer)) (ht : s.heap.TracedAtW base e cls a0 fl) (hQ : ∀ h', base.StaysIn h' → h'.TracedW base e cls a0 → s.heap.UpToSlots h' → Q () { s with heap := h' }) : wpAny M A (leaving env (.ref e)) Q E s := by
  obtain ⟨oe, vs, T, oT, ts, he, ⟨hcls, h0⟩, hd, h1, hnT, hTe, hT, hdT, h3⟩ := id ht
  unfold leaving
  by_cases hq : (fl == rawInt L) = true
  · refine wpAny_bind ?_
    unfold noteFrame; simp only [hf]
    refine wpAny_bind (wpAny_field he hd h1 ?_); rw [if_pos (show (Value.ref T != Value.none) = true from by simp)]
    refine wpAny_bind (wpAny_field hT hdT h3 ?_); rw [if_pos hq]
    exact wpAny_pure (wpAny_setFlight_noneW hkb hl ht fun h' k1 k2 k3 k4 => hQ h' k1 k3 fun b o hb hn => ⟨o.slots, k4 b o hb hn⟩)
  · subst hcls
    unfold noteFrame; simp only [hf]
    refine wpAny_bind (wpAny_bind (wpAny_field he hd h1 ?_)); rw [if_pos (show (Value.ref T != Value.none) = true from by simp)]
    refine wpAny_bind (wpAny_field hT hdT h3 ?_); rw [if_neg hq]
    refine wpAny_bind (wpAny_setField hT hdT (Array.getElem?_eq_some_iff.mp h3).1 ?_)
    have ot : ∀ b, b ≠ T → (s.heap.update T (Obj.mapFields (·.setIfInBounds 3 Value.none))).get? b = s.heap.get? b := fun b hb => Heap.get?_update_other _ _ (Ne.symm hb)
    have nr : ∀ b o, s.heap.get? b = some o → (∀ vs, o.data ≠ .fields vs) → b ≠ T := fun b o hb hnf q => by rw [q, hT] at hb; cases hb; exact hnf ts hdT
    exact wpAny_newEntryW hfr (hl.of_keeps fun b o hb hnf => ⟨o, (ot b (nr b o hb hnf)).trans hb, rfl⟩) hf ((ot e (Ne.symm hTe)).trans he) (fun b o hbo => (ot b fun q => by rw [q, hnT] at hbo; cases hbo).trans (hkb b o hbo)) hen hd (Array.getElem?_eq_some_iff.mp h1).1 h0
      fun h' ⟨x1, x2, x3, x4⟩ => hQ h' x1 x3 fun b o hb hnf => x4 b o ((ot b (nr b o hb hnf)).trans hb) hnf
end
section
variable {P : Program} {w : World} {K : PySem.W.Frag} {mg : Str → Option Value} {base : Heap} {N : List Str} {qual : Str} {scope : Scope} {f : Addr} {cd : Value} {A : Around} {outer : List Env} {s s1 : Shared} {H H1 : Hp} {E : XK}
  {pins : List (Addr × Obj)} {σ : St} {hid : List Addr} {h' : Heap} {ea : Addr} {C a0 : Value} {d : Option Addr}
theorem left_cx2 (I : Inv (cxOf (CX1 P w) P w K mg base N qual scope f cd A outer s H E) pins σ H1 s1) (hf : ∀ b ∈ frs (cxOf (CX1 P w) P w K mg base N qual scope f cd A outer s H E).stack, b ∈ hid)
    (hh : ∀ b ∈ hid, b ∈ frs (cxOf (CX1 P w) P w K mg base N qual scope f cd A outer s H E).stack ∨ (s.heap.get? b = none ∧ H1 b = none))
    (st : (PySem.W.hideAll s1.heap hid).StaysIn h') (sm : ∀ b ∈ frs (cxOf (CX1 P w) P w K mg base N qual scope f cd A outer s H E).stack, ∀ o, s1.heap.get? b = some o → (∀ vs, o.data ≠ .fields vs) → ∃ sl, h'.get? b = some { o with slots := sl })
    (tr : h'.TracedW (PySem.W.hideAll s1.heap hid) ea C a0) (hea : ea ∈ hid ∨ s1.heap.get? ea = none) (dx : ∀ o, h'.get? ea = some o → Dx o d) (e : E C d H1) : CX1 P w outer H s E (.ref ea) { s1 with heap := h' } := by
  have old : ∀ b o, s.heap.get? b = some o → ∃ o', s1.heap.get? b = some o' := fun b o q => I.base.there b o q (fun z => nomatch z)
  have frS := fun b hb => (I.stack.mem (b := b) hb).2
  have keepB : ∀ b o, b ∉ hid → s1.heap.get? b = some o → h'.get? b = some o := fun b o hb q => st b o (PySem.W.hideAll_get hid q hb)
  have trk : ∀ b o, H1 b = some o → b ∉ hid := fun b o q hb => by
    rcases hh b hb with z | ⟨_, z⟩
    · rw [I.stkFree b z] at q; cases q
    · rw [z] at q; cases q
  have fr2 : ∀ b o, s.heap.get? b = some o → b ∈ hid → b ∈ frs outer := fun b o q hb => by
    rcases hh b hb with z | ⟨z, _⟩
    · rcases List.mem_cons.mp (I.stkSub b z) with y | y
      · exact absurd (Nat.lt_of_lt_of_le (Heap.lt_size q) I.ok.above) (by rw [y]; exact Nat.lt_irrefl _)
      · exact y
    · rw [z] at q; cases q
  have inStk : ∀ b, b ∈ frs outer → b ∈ frs (cxOf (CX1 P w) P w K mg base N qual scope f cd A outer s H E).stack := fun b hb => List.mem_cons_of_mem _ hb
  obtain ⟨oe, vs, T, oT, ts, he, ⟨hc, h0⟩, hd, h1, hnT, hne, hT, hdT, h3⟩ := tr
  have gone : ∀ b o', (PySem.W.hideAll s1.heap hid).get? b = none → s1.heap.get? b = some o' → b ∈ hid := fun b o' z q => by
    by_cases hb : b ∈ hid
    · exact hb
    · rw [PySem.W.hideAll_get hid q hb] at z; cases z
  have fields : ∀ b o ws, h'.get? b = some o → o.data = .fields ws → b ∈ frs (cxOf (CX1 P w) P w K mg base N qual scope f cd A outer s H E).stack → False := fun b o ws q d hb => by
    obtain ⟨ob, g1, g2⟩ := frS b hb
    obtain ⟨sl, g3⟩ := sm b hb ob g1 g2
    rw [q] at g3; cases g3; exact g2 ws d
  have hT0 : s.heap.get? T = none := by
    cases q : s.heap.get? T with
    | none => rfl
    | some o =>
      obtain ⟨o', q'⟩ := old T o q
      exact (fields T oT ts hT hdT (inStk _ (fr2 T o q (gone T o' hnT q')))).elim
  have hT1 : H1 T = none := by
    cases q : H1 T with
    | none => rfl
    | some o =>
      obtain ⟨o', q'⟩ := (I.hok T o q).isThere
      exact absurd (gone T o' hnT q') (trk T o q)
  have he0 : s.heap.get? ea = none := by
    cases q : s.heap.get? ea with
    | none => rfl
    | some o =>
      rcases hea with z | z
      · exact (fields ea oe vs he hd (inStk _ (fr2 ea o q z))).elim
      · obtain ⟨o', q'⟩ := old ea o q
        rw [z] at q'; cases q'
  have he1 : H1 ea = none := by
    cases q : H1 ea with
    | none => rfl
    | some o =>
      rcases hea with z | z
      · exact absurd z (trk ea o q)
      · obtain ⟨o', q'⟩ := (I.hok ea o q).isThere
        rw [z] at q'; cases q'
  refine ⟨ea, C, d, H1, rfl, I.os, I.bare, ⟨fun b o q n hb _ => ?_, fun b o q n hb _ => ?_, fun b o q n _ => ?_, fun b o q _ => ?_, I.base.tups, I.base.frzs, I.base.tbls⟩, fun b o q => ?_,
    ⟨oe, vs, T, oT, ts, a0, he, ⟨hc, dx oe he⟩, h0, hd, h1, hne, hT, hdT, h3, he1, hT1, he0, hT0⟩, e⟩
  · exact keepB b o (fun z => hb (fr2 b o q z)) (I.base.keep b o q n hb (fun z => nomatch z))
  · obtain ⟨sl, q1⟩ := I.base.slot b o q n hb (fun z => nomatch z)
    obtain ⟨ob, g1, g2⟩ := frS b (inStk b hb)
    rw [q1] at g1; cases g1
    obtain ⟨sl', q2⟩ := sm b (inStk b hb) _ q1 g2
    exact ⟨sl', q2⟩
  · exact I.base.free b o q n (fun z => nomatch z)
  · obtain ⟨o', q1⟩ := old b o q
    by_cases hb : b ∈ hid
    · obtain ⟨ob, g1, g2⟩ := frS b (inStk b (fr2 b o q hb))
      obtain ⟨sl, q2⟩ := sm b (inStk b (fr2 b o q hb)) ob g1 g2
      exact ⟨_, q2⟩
    · exact ⟨o', keepB b o' hb q1⟩
  · refine (I.hok b o q).stay (fun c u hc q' => keepB c u ?_ q') (fun _ z => z) fun _ _ z => z
    rcases hc with z | z
    · rw [z]; exact trk b o q
    · exact trk c _ z
end
noncomputable def compXe (X : Cx) (E : XK) (scope : Scope) (C : Addr) (N' : List Str) (s : Shared) (H : Hp) (fp : List Addr) : Value → Shared → Prop := fun e s' =>
  ∃ pins σ H1 s1, Inv (X.comp scope C N' s H fp) pins σ H1 s1 ∧ CX1 X.prog X.w X.stack H1 s1 E e s'
theorem passE {X : Cx} {E : XK} {scope : Scope} {C : Addr} {N' : List Str} {s : Shared} {H : Hp} {fp : List Addr} : Passes (CX1 X.prog X.w) ((X.comp scope C N' s H fp).wish (compXe X E scope C N' s H fp)) E :=
  fun pins σ H1 s1 e s' I hx => ⟨pins, σ, H1, s1, I.unwish, hx⟩
section
variable {P : Program} {w : World} {K : PySem.W.Frag} {mg : Str → Option Value} {base : Heap} {N : List Str} {qual : Str} {scope : Scope} {f : Addr} {cd : Value} {A : Around} {outer : List Env} {s : Shared} {H : Hp} {E : XK}
theorem comp_err {pins : List (Addr × Obj)} {σ : St} {H3 : Hp} {s3 : Shared} {scope' : Scope} {C : Addr} {N' : List Str} {fp : List Addr} {Q : Value → Shared → Prop} {acc e : Value} {s' : Shared}
    (I3 : Inv (cxOf (CX1 P w) P w K mg base N qual scope f cd A outer s H E) pins σ H3 s3) (f3 : ∀ b ∈ fp, FpOk (cxOf (CX1 P w) P w K mg base N qual scope f cd A outer s H E) pins H3 b) (hC : s3.heap.objs.size ≤ C)
    (hx : compXe (cxOf (CX1 P w) P w K mg base N qual scope f cd A outer s H E) E scope' C N' s3 H3 fp e s') :
    notedBy (model P w) (cxOf (CX1 P w) P w K mg base N qual scope f cd A outer s H E).A (compEnvC scope' (clOf scope' (cxOf (CX1 P w) P w K mg base N qual scope f cd A outer s H E).env) C (cxOf (CX1 P w) P w K mg base N qual scope f cd A outer s H E).env)
      (fun e s' => compPost (model P w) (cxOf (CX1 P w) P w K mg base N qual scope f cd A outer s H E).A (cxOf (CX1 P w) P w K mg base N qual scope f cd A outer s H E).xe none Q acc C (.error e) s') e s' := by
  obtain ⟨pins1, σ1, H1, s1, I, ea, Cc, d, H', rfl, os, bare, un, hok, ⟨oe, vs, T, oT, ts, a0, he, ⟨hc, hx0⟩, h0, hd, h1, hne, hT, hdT, h3, n1, n2, g1, g2⟩, hE⟩ := hx
  have I' : Inv ((cxOf (CX1 P w) P w K mg base N qual scope f cd A outer s H E).comp scope' C N' s3 H3 fp) pins1 σ1 H' s' := I.call' (ch := []) os un hok bare (fun _ z => nomatch z)
  have IX : Inv (cxOf (CX1 P w) P w K mg base N qual scope f cd A outer s H E) pins σ H' s' := by
    refine I3.call' (ch := fp) I'.os I'.base I'.hok I'.bare fun b hb => ?_
    obtain ⟨_, y1, _, y3, y4, y5⟩ := f3 b hb
    exact ⟨y3, y1, y4, y5⟩
  obtain ⟨mC, hnC, _⟩ := I'.loc
  have hnC : s'.heap.Ns C mC := hnC
  have cF : ∀ o, s'.heap.get? C = some o → ∀ ws, o.data ≠ .fields ws := fun o ho ws hw => by
    obtain ⟨o', es, ep, ho', hd', _⟩ := hnC
    rw [ho] at ho'; cases ho'
    rw [hd'] at hw; cases hw
  have nOld : ∀ b, s1.heap.get? b = none → s.heap.get? b = none := fun b z => by
    cases q : s.heap.get? b with
    | none => rfl
    | some o =>
      obtain ⟨o', q'⟩ := I3.base.there b o q (fun z => nomatch z)
      obtain ⟨o2, q2⟩ := I.base.there b o' q' (fun hb => by
        rcases (f3 b hb).2.2.2.1 with y | y
        · exact nomatch y
        · exact absurd (Nat.lt_of_lt_of_le (Heap.lt_size q) y) (Nat.lt_irrefl _))
      rw [z] at q2; cases q2
  have eaC : ea ≠ C := by rintro rfl; exact cF oe he vs hd
  have TC : T ≠ C := by rintro rfl; exact cF oT hT ts hdT
  have frC : ∀ b ∈ frs (cxOf (CX1 P w) P w K mg base N qual scope f cd A outer s H E).stack, b ≠ C := fun b hb => by
    obtain ⟨ob, q1, q2⟩ := (I3.stack.mem (b := b) hb).2
    exact Nat.ne_of_lt (Nat.lt_of_lt_of_le (Heap.lt_size q1) hC)
  have hfr : ∀ b ∈ frs (cxOf (CX1 P w) P w K mg base N qual scope f cd A outer s H E).stack, b ∈ ea :: T :: C :: frs (cxOf (CX1 P w) P w K mg base N qual scope f cd A outer s H E).stack := fun b hb => .tail _ (.tail _ (.tail _ hb))
  generalize hB : PySem.W.hideAll s'.heap (ea :: T :: C :: frs (cxOf (CX1 P w) P w K mg base N qual scope f cd A outer s H E).stack) = B
  have bea : B.get? ea = none := by rw [← hB]; exact PySem.W.hideAll_none _ (.head _)
  have bT : B.get? T = none := by rw [← hB]; exact PySem.W.hideAll_none _ (.tail _ (.head _))
  have bC : B.get? C = none := by rw [← hB]; exact PySem.W.hideAll_none _ (.tail _ (.tail _ (.head _)))
  have bS : B.StaysIn s'.heap := by rw [← hB]; exact fun b o q => PySem.W.of_hideAll _ q
  have bF : s'.heap.FunFrames B (cxOf (CX1 P w) P w K mg base N qual scope f cd A outer s H E).stack := by
    rw [← hB]; exact PySem.W.funFrames_hide IX.stack (fun env he' b hb => hfr b (List.mem_filterMap.mpr ⟨env, he', hb⟩))
  show wpAny (model P w) _ (noteFrame (.ref ea) (cxOf (CX1 P w) P w K mg base N qual scope f cd A outer s H E).env) _ _ s'
  refine wpAny_dkQ kd_noteFrame (wpAny_noteFrame_onW (base := B) (cls := Cc) (a0 := a0) IX.ok.frames bF rfl ⟨oe, vs, T, oT, ts, he, ⟨hc, h0⟩, hd, h1, bT, hne, hT, hdT, h3⟩ bS bea fun h1' hN dk1 => ?_)
  obtain ⟨k1, k2, k3, k4⟩ := hN
  refine ⟨mC, Heap.UpToSlots.ns k4 hnC, fun h2 hs2 cenv _ => ?_⟩
  have s2 : ∀ b, b ≠ C → h2.get? b = h1'.get? b := fun b hb => hs2.2 b hb
  have j1 : B.StaysIn h2 := fun b o q => by
    rw [s2 b (fun z => by rw [z, bC] at q; cases q)]; exact k1 b o q
  have cF1 : ∀ o, h1'.get? C = some o → ∀ ws, o.data ≠ .fields ws := fun o ho ws hw => by
    obtain ⟨o', es, ep, ho', hd', _⟩ := Heap.UpToSlots.ns k4 hnC
    rw [ho] at ho'; cases ho'
    rw [hd'] at hw; cases hw
  have up : ∀ b ∈ frs (cxOf (CX1 P w) P w K mg base N qual scope f cd A outer s H E).stack, ∀ o, s'.heap.get? b = some o → (∀ vs, o.data ≠ .fields vs) → ∃ sl, h2.get? b = some { o with slots := sl } := fun b hb o ho hn => by
    obtain ⟨sl, q⟩ := k4 b o ho hn
    exact ⟨sl, by rw [s2 b (frC b hb)]; exact q⟩
  have j2 : h2.FunFrames B (cxOf (CX1 P w) P w K mg base N qual scope f cd A outer s H E).stack := by
    have gen : ∀ l : List Env, h1'.FunFrames B l → (∀ b ∈ frs l, b ≠ C) → h2.FunFrames B l := by
      intro l
      induction l with
      | nil => exact fun _ _ => trivial
      | cons env rest ih =>
        rintro ⟨y1, ⟨L, o, y2, y3, y4, y5⟩, y6⟩ hn
        have hL : L ∈ frs (env :: rest) := List.mem_filterMap.mpr ⟨env, .head _, y2⟩
        refine ⟨y1, ⟨L, o, y2, y3, by rw [s2 L (hn L hL)]; exact y4, y5⟩, ih y6 fun b hb => hn b ?_⟩
        obtain ⟨en, z1, z2⟩ := List.mem_filterMap.mp hb
        exact List.mem_filterMap.mpr ⟨en, .tail _ z1, z2⟩
    exact gen _ k2 frC
  have j3 : h2.TracedAtW B ea Cc a0 (rawInt (cxOf (CX1 P w) P w K mg base N qual scope f cd A outer s H E).env.locals) := by
    obtain ⟨oe', vs', T', oT', ts', e1, e2, e3, e4, e5, e6, e7, e8, e9⟩ := k3
    have TC' : T' ≠ C := by rintro rfl; exact cF1 oT' e7 ts' e8
    exact ⟨oe', vs', T', oT', ts', by rw [s2 ea eaC]; exact e1, e2, e3, e4, e5, e6, by rw [s2 T' TC']; exact e7, e8, e9⟩
  have dx2 : ∀ o, h2.get? ea = some o → Dx o d := fun o e => by
    rw [s2 ea eaC] at e; exact hx0.dk he e dk1
  refine wpAny_dk kd_passOn (passed_on (s := { s' with heap := h2 }) j1 j2 j3 fun h3' fl m1 m2 m3 m4 dk2 => ?_)
  refine wpAny_dkQ kd_leaving (leaves_any (s := { s' with heap := h3' }) IX.ok.frames rfl m1 bea m2 m3 fun h4 r1 r2 r3 dk3 => ?_)
  obtain ⟨o2, eo2⟩ : ∃ o, h2.get? ea = some o := by
    obtain ⟨o2, _, _, _, _, e1, _⟩ := j3
    exact ⟨o2, e1⟩
  refine left_cx2 (s1 := s') (hid := ea :: T :: C :: frs (cxOf (CX1 P w) P w K mg base N qual scope f cd A outer s H E).stack) (a0 := a0) IX hfr (fun b hb => ?_) (by rw [hB]; exact r1) (fun b hb o ho hn => ?_) (by rw [hB]; exact r2) (.inl (.head _)) (fun o e => (dx2 o2 eo2).dk eo2 e (dk2.trans dk3)) hE
  · rcases List.mem_cons.mp hb with rfl | hb
    · exact .inr ⟨nOld _ g1, n1⟩
    · rcases List.mem_cons.mp hb with rfl | hb
      · exact .inr ⟨nOld _ g2, n2⟩
      · rcases List.mem_cons.mp hb with rfl | hb
        · refine .inr ⟨?_, I'.free⟩
          cases q : s.heap.get? b with
          | none => rfl
          | some o =>
            obtain ⟨o', q'⟩ := I3.base.there b o q (fun z => nomatch z)
            exact absurd (Nat.lt_of_lt_of_le (Heap.lt_size q') hC) (Nat.lt_irrefl _)
        · exact .inl hb
  · obtain ⟨sl, q⟩ := up b hb o ho hn
    obtain ⟨sl1, q1⟩ := m4 b _ q hn
    obtain ⟨sl2, q2⟩ := r3 b _ q1 hn
    exact ⟨sl2, q2⟩
end
section
variable {X : Cx} {pins : List (Addr × Obj)} {σ : St} {H : Hp} {s : Shared}
theorem comp_loopE {elt iter : Expr} {tg : Expr} {pos : Pos} {scope : Scope} {g : TG} {te : TE} {lv : Nat} {caps : List Nat} {N' : List Str} {fp : List Addr} {it D C : Addr} {tn : Nat → Heap → Prop} {J : It} {H3 : Hp} {s3 s4 : Shared} {Q : VK} {W : Nat → Nat → List V → Hp → Prop} {m0 : Nat}
    (hc : X.calm = true) (T : Turn X.prog X.w X.K tg J fp it tn) (hC : s3.heap.objs.size ≤ C) (I3 : Inv X pins σ H3 s3) (f3 : ∀ b ∈ fp, FpOk X pins H3 b) (hCf : ∀ b ∈ fp, b ≠ C) (I4 : Inv (X.comp scope C N' s3 H3 fp) [] (seen lv caps σ) H3 s4) (st4 : tn 0 s4.heap) (w0 : W 0 m0 [] H3)
    (turn : ∀ i m ys H, W i m ys H → H D = some (.lst ys) ∧ ys.length < sizeLine ∧ ((J.stop i H ∧ Q (.ref D) H) ∨ (J.go i H ∧ ∀ x H', J.yld i H x H' → g x (seen lv caps σ) H' fun σ2 H2 => te σ2 H2 fun v H3 => H3 D = some (.lst ys) ∧
      ∃ m', m' < m ∧ W (i + 1) m' (ys ++ [v]) (upd H3 D (.lst (ys ++ [v]))))))
    (hgk : GKeep g lv caps) (hg : PG (X.comp scope C N' s3 H3 fp) tg g) {xe : Value → Shared → Prop}
    (herr : ∀ e s', xe e s' → notedBy (model X.prog X.w) X.A (compEnvC scope (clOf scope X.env) C X.env) (fun e s' => compPost (model X.prog X.w) X.A X.xe none (EP X pins σ Q) (.ref D) C (.error e) s') e s')
    (he : PE ((X.comp scope C N' s3 H3 fp).wish xe) elt te) :
    codeAny (model X.prog X.w) X.A (.compLoop (.ListComp elt [⟨tg, iter, [], 0⟩] scope pos) 0 (.ref it) (.ref D) (compEnvC scope (clOf scope X.env) C X.env))
      (compPost (model X.prog X.w) X.A X.xe none (EP X pins σ Q) (.ref D) C) s4 := by
  have stat : ∀ {H' : Hp}, (∀ b ∈ fp, H' b = none) → ∀ b ∈ fp, FpOk (X.comp scope C N' s3 H3 fp) [] H' b := fun {H'} hn b hb =>
    ⟨hn b hb, hCf b hb, fun z => I4.ok.exfs b hb z, .inl hb, fun y c e => (I4.ok.exf b hb).2 y c e, fun p hp => absurd (show p ∈ ([] : List (Addr × Obj)) from hp) (by simp)⟩
  refine compLoop_any (fun n s' => ∃ i ys H', Inv (X.comp scope C N' s3 H3 fp) [] (seen lv caps σ) H' s' ∧ tn i s'.heap ∧ (∀ b ∈ fp, H' b = none) ∧ W i n ys H') ?_ m0 ⟨0, [], _, I4, st4, fun b hb => (f3 b hb).1, w0⟩
  rintro n s5 ⟨i, ys, H5, I5, st5, fr5, w5⟩
  obtain ⟨hD, hlen, hcase⟩ := turn i n ys H5 w5
  rcases hcase with ⟨stop, q⟩ | ⟨go, step⟩
  · refine thn (T.done (X.comp scope C N' s3 H3 fp) rfl rfl rfl hc i [] s5 _ H5 _ I5 (stat fr5) st5 stop) fun r s6 hr => ?_
    obtain ⟨hr, I6⟩ := hr
    subst hr
    obtain ⟨m, hn, _⟩ := I6.loc
    refine ⟨m, hn, fun h' hs' => ?_⟩
    have ub := I6.base
    have neC : ∀ b o, s3.heap.get? b = some o → b ≠ C := fun b o q => Nat.ne_of_lt (Nat.lt_of_lt_of_le (Heap.lt_size q) hC)
    refine ⟨.ref D, H5, I3.call' (ch := fp) (s' := { s6 with heap := h' }) I6.os ⟨fun b o q n hb hx => (hs'.2 b (neC b o q)).trans (ub.keep b o q n hb hx), fun b o q n hb hx => ?_, ub.free, fun b o q hx => ?_, ub.tups, ub.frzs, ub.tbls⟩ ?_ I6.bare (fun b hb => ?_), rfl, q⟩
    · obtain ⟨sl, e⟩ := ub.slot b o q n hb hx
      exact ⟨sl, (hs'.2 b (neC b o q)).trans e⟩
    · obtain ⟨o', e⟩ := ub.there b o q hx
      exact ⟨o', (hs'.2 b (neC b o q)).trans e⟩
    · intro b o q
      refine (I6.hok b o q).stay (fun c u hc' q' => (hs'.2 c ?_).trans q') (fun _ z => z) fun _ _ z => z
      intro ec
      have fC : H5 C = none := I6.free
      rcases hc' with z | z
      · rw [← z, ec, fC] at q; cases q
      · rw [ec, fC] at z; cases z
    · obtain ⟨_, y1, _, y3, y4, y5⟩ := f3 b hb
      exact ⟨y3, y1, y4, y5⟩
  · refine thn (T.item (X.comp scope C N' s3 H3 fp) rfl rfl rfl hc i [] s5 _ H5 _ I5 (stat fr5) st5 go) fun r s6 hr => ?_
    obtain ⟨u, hr, h6⟩ := hr
    subst hr
    refine thn h6 fun _ s7 h7 => ?_
    obtain ⟨y, H7, I7, r7, y7, st7, fr7⟩ := h7
    have I7' := I7.pinned (stat fr7) (T.obj _ _ st7)
    refine wpAny_mono (hg _ s7 _ H7 y u _ I7' r7 (hgk σ y H7 _ (step y H7 y7))) (fun _ s8 h8 => ?_) (fun _ _ z => z.elim)
    obtain ⟨σ8, H8, I8, q8, ks⟩ := h8
    refine wpAny_mono (he _ s8 σ8 H8 _ (I8.wish _) q8) (fun v s9 h9 => ?_) (fun e s9 z => herr e s9 z)
    obtain ⟨z9, H9, I9, r9, hD9, m', hm', w9⟩ := h9
    have I9 := I9.unwish
    refine wpAny_mono (mt_append (X := X.comp scope C N' s3 H3 fp) _ s9 σ8 H9 (.ref D) [z9] (.ref D) [v] (fun _ H' => H' = upd H9 D (.lst (ys ++ [z9]))) I9 rfl (.cons r9 .nil) ⟨D, ys, z9, rfl, rfl, hD9, hlen, rfl⟩) (fun _ s10 h10 => ?_) (fun _ _ z => z.elim)
    obtain ⟨_, H10, I10, _, rfl⟩ := h10
    refine ⟨m', hm', i + 1, ys ++ [z9], _, I10.unpinned.weak ?_ ?_, T.keep _ _ _ st7 fun b hb o e => (I10.pin (b, o) (List.mem_append_right _ (List.mem_append_right _ (mem_pinsAt hb e)))).1, fun b hb => ?_, w9⟩
    · rw [I10.len]; exact I4.len
    · exact ks
    · obtain ⟨o, e, d⟩ := T.obj _ _ st7 b hb
      exact (I10.pin (b, o) (List.mem_append_right _ (List.mem_append_right _ (mem_pinsAt hb e)))).2.1
theorem pe_compE {elt iter : Expr} {tg : Expr} {pos : Pos} {scope : Scope} {wi : TI} {g : TG} {te : TE} {lv : Nat} {caps : List Nat} {N' : List Str} {xe : Addr → Shared → Hp → List Addr → Value → Shared → Prop} (herr : ∀ (pins : List (Addr × Obj)) (σ : St) (H3 : Hp) (s3 : Shared) (C : Addr) (fp : List Addr) (Q : Value → Shared → Prop) (acc e : Value) (s' : Shared), Inv X pins σ H3 s3 → (∀ b ∈ fp, FpOk X pins H3 b) → s3.heap.objs.size ≤ C → xe C s3 H3 fp e s' →
      notedBy (model X.prog X.w) X.A (compEnvC scope (clOf scope X.env) C X.env) (fun e s' => compPost (model X.prog X.w) X.A X.xe none Q acc C (.error e) s') e s')
    (hc : X.calm = true) (ok : CompOk X scope lv caps N') (hgk : GKeep g lv caps) (hi : PI X tg iter wi)
    (hg : ∀ C s H fp, PG (X.comp scope C N' s H fp) tg g) (he : ∀ C s H fp, PE ((X.comp scope C N' s H fp).wish (xe C s H fp)) elt te) (hs : ∀ y, foldedSetIterable iter X.env y = pure y := by intro _; rfl) :
    PE X (.ListComp elt [⟨tg, iter, [], 0⟩] scope pos) (tComp wi g te lv caps) := by
  intro pins s σ H Q I h
  rw [eval_ListComp]
  refine wpAny_comprehension_free (use := none) rfl hs (closure_eq fun y hy hk => I.ok.has y.1 (ok.free y hy hk)) ok.kind ok.loc (thn (hi pins s σ H _ I h) fun v s1 h1 => thn h1 fun itv s2 h2 => ?_)
  obtain ⟨it, fp, tn, J, H2, e, I2, T, st2, f2, hW⟩ := h2
  subst e
  have fpl : ∀ b ∈ fp, b < s2.heap.objs.size := fun b hb => by obtain ⟨o, e, _⟩ := T.obj 0 _ st2 b hb; exact Heap.lt_size e
  refine wpAny_newObj_type ?_
  have I3 : Inv X pins σ (upd H2 s2.heap.objs.size (.lst [])) { s2 with heap := s2.heap.push { cls := .type "list", data := .seq ([] : List Value).toArray }, toks := s2.toks } := I2.lnew (its := []) .nil (Nat.zero_le _)
  obtain ⟨W, ⟨m0, w0⟩, turn⟩ := hW s2.heap.objs.size I2.fresh
  refine wpAny_newFunctionEnv ok.cell (by intro y hy; simp at hy) (fun h₁ hns₁ hsb₁ => ?_) ok.kind
  have hk3 : ∀ b o, (s2.heap.push { cls := .type "list", data := .seq ([] : List Value).toArray }).get? b = some o → h₁.get? b = some o := fun b o q =>
    (hsb₁.2 b (Nat.ne_of_lt (Heap.lt_size q))).trans (Heap.get?_push_of_some _ q)
  have f3 : ∀ b ∈ fp, FpOk X pins (upd H2 s2.heap.objs.size (.lst [])) b := fun b hb => by
    obtain ⟨n, r⟩ := f2 b hb
    exact ⟨by rw [upd_ne (Nat.ne_of_lt (fpl b hb))]; exact n, r⟩
  have fpl3 : ∀ b ∈ fp, b < (s2.heap.push { cls := .type "list", data := .seq ([] : List Value).toArray }).objs.size := fun b hb => by rw [Heap.size_push]; exact Nat.lt_succ_of_lt (fpl b hb)
  have I4 := inv_comp ok I3 f3 hns₁ hk3 fpl3 (s2.toks + 0)
  have st4 : tn 0 h₁ := T.keep _ _ _ st2 fun b hb o q => hk3 b o (Heap.get?_push_of_some _ q)
  have loop := comp_loopE (elt := elt) (iter := iter) (pos := pos) (s4 := { s2 with heap := h₁, toks := s2.toks + 0 }) hc T (Nat.le_refl _) I3 f3 (fun b hb => Nat.ne_of_lt (fpl3 b hb)) I4 st4 w0 turn hgk (hg _ _ _ _) (fun e s' z => herr _ _ _ _ _ _ _ _ e s' I3 f3 (Nat.le_refl _) z) (he _ _ _ _)
  exact codeAny_compStart_list loop (T.self _ 0 _ _ _ st4 loop)
end
section
variable {K : PySem.W.Frag} {g : TG} {te : TE} {σ0 : St} {H1 : Hp} {Q : VK}
theorem comp_LP {a : Addr} {xs : List V} (hq : SqL K H1 a xs) (hl : xs.length < sizeLine) (f : V → V) (Pv : V → Prop)
    (step : ∀ x ∈ xs, ∀ (H' : Hp) (Q' : VK), Same H1 H' → (Pv x → ∀ H2, Same H' H2 → Q' (f x) H2) → g x σ0 H' fun σ2 H2 => te σ2 H2 Q')
    (fin : (∀ x ∈ xs, Pv x) → ∀ D H', H1 D = none → Same H1 H' → H' D = some (.lst (xs.map f)) → Q (.ref D) H') : compW (Itl K a) g te σ0 Q H1 := by
  intro D hD
  refine ⟨fun i m ys H' => i ≤ xs.length ∧ m = xs.length - i ∧ ys = (xs.take i).map f ∧ Same H1 H' ∧ H' D = some (.lst ys) ∧ ∀ x ∈ xs.take i, Pv x, ⟨_, Nat.zero_le _, rfl, rfl, Same.new hD, upd_same, fun x hx => absurd hx (by simp)⟩, ?_⟩
  rintro i m ys H' ⟨hi, rfl, rfl, S, e, hp⟩
  refine ⟨e, by rw [List.length_map, List.length_take]; omega, ?_⟩
  by_cases hlt : i < xs.length
  · have hx := List.getElem?_eq_getElem hlt
    refine .inr ⟨⟨xs, _, S.knd (k := .L) hq, hx⟩, fun x H'' hy => ?_⟩
    obtain ⟨rfl, hy⟩ := hy
    have hx := hy xs (S.knd (k := .L) hq)
    have et : xs.take (i + 1) = xs.take i ++ [x] := by rw [List.take_add_one, hx]; rfl
    refine step x (List.mem_of_getElem? hx) _ _ S fun px H2 S2 => ⟨S2 _ _ e, xs.length - (i + 1), by omega, hlt, rfl, ?_, (S.trans S2).upd hD, upd_same, fun y hy => ?_⟩
    · rw [et, List.map_append]; rfl
    · rw [et] at hy
      rcases List.mem_append.mp hy with z | z
      · exact hp y z
      · rw [List.mem_singleton.mp z]; exact px
  · have ei : i = xs.length := by omega
    subst ei
    rw [List.take_length] at e hp
    exact .inl ⟨⟨xs, S.knd (k := .L) hq, Nat.le_refl _⟩, fin hp D H' hD S e⟩
end
end L2
set_option Elab.async false
set_option linter.all false
set_option maxRecDepth 100000
set_option maxHeartbeats 2000000
namespace L2
open PySem PySem.Spec PyProof.Rows
section
variable {X : Cx}
theorem count_eqU {x : V} : ∀ {xs : List V} {us : List Value}, Vals xs us → xs.all flatV = true → us.countP (eqU x) = xs.countP fun y => eqV y x
  | _, _, .nil, _ => rfl
  | y :: xs, u :: us, .cons r t, f => by
    rw [List.all_cons, Bool.and_eq_true] at f
    rw [List.countP_cons, List.countP_cons, eqU_of r f.1, count_eqU t f.2]
noncomputable def rCount : V → List V → Hp → VK → Prop := fun x vs H Q => ∃ l xs y, x = .ref l ∧ vs = [y] ∧ H l = some (.lst xs) ∧ flatV y = true ∧ xs.all flatV = true ∧ Q (.int (xs.countP fun z => eqV z y : Nat)) H
theorem mt_count : MtM X "list.count" rCount := by
  intro pins s σ H x vs v us Q I rx rv h
  obtain ⟨l, xs, y, rfl, rfl, hH, fy, fs, q⟩ := h
  cases rx
  obtain ⟨u, rfl, ru⟩ := rv.one
  obtain ⟨z, its, n, r, hl, e⟩ := I.lstM hH
  refine call_meets F.slot_list_count ⟨_, e, rfl⟩ F.entry_list_count (F.args_list_count_2 _ _) (SeqAt.list_countAt l its.toArray n none #[] u (eqU y)) ⟨e, fun w hw => mem_eqAt ru fy r fs w (by simpa using hw), ?_⟩
  refine ⟨.int _, H, I.tok _, ⟨_, rfl⟩, ?_⟩
  rw [show its.toArray.toList.countP (eqU y) = its.countP (eqU y) by simp, count_eqU r fs]
  exact q
noncomputable def rIndex : V → List V → Hp → VK → Prop := fun x vs H Q => ∃ l xs y, ∃ j : Nat, x = .ref l ∧ vs = [y] ∧ H l = some (.lst xs) ∧ flatV y = true ∧ xs.all flatV = true ∧ (∃ z, xs[j]? = some z ∧ eqV z y = true) ∧ (∀ (m : Nat) z, m < j → xs[m]? = some z → eqV z y = false) ∧ Q (.int j) H
theorem mt_index : MtM X "list.index" rIndex := by
  intro pins s σ H x vs v us Q I rx rv h
  obtain ⟨l, xs, y, j, rfl, rfl, hH, fy, fs, ⟨zj, hj, ej⟩, no, q⟩ := h
  cases rx
  obtain ⟨u, rfl, ru⟩ := rv.one
  obtain ⟨z, its, n, r, hl, e⟩ := I.lstM hH
  have fl : ∀ (m : Nat) zz, xs[m]? = some zz → flatV zz = true := fun m zz hm => List.all_eq_true.mp fs zz (List.mem_of_getElem? hm)
  obtain ⟨uj, huj, rj⟩ := r.get hj
  have hlt : j < its.toArray.size := by rw [List.size_toArray]; exact (List.getElem?_eq_some_iff.mp huj).1
  have hj' := (List.getElem?_eq_some_iff.mp hj).1
  have h63 : (j : Int) < 2 ^ 63 - 1 := by
    have h2 : (sizeLine : Int) < 2 ^ 63 - 1 := by decide
    omega
  refine call_meets F.slot_list_index ⟨_, e, rfl⟩ F.entry_list_index (F.args_list_index_2 _ _) (SeqAt.list_indexAt l its.toArray n none #[] u (eqU y) j hlt h63 ?_ ?_) ⟨e, fun w hw => mem_eqAt ru fy r fs w (by simpa using hw), ?_⟩
  · have e1 : its.toArray[j] = uj := by simpa using (List.getElem?_eq_some_iff.mp huj).2
    rw [e1, eqU_of rj (fl j zj hj)]; exact ej
  · intro m hm hmj
    have hm' : m < xs.length := by rw [hl]; simpa using hm
    obtain ⟨um, hum, rm⟩ := r.get (List.getElem?_eq_getElem hm')
    have e1 : its.toArray[m] = um := by simpa using (List.getElem?_eq_some_iff.mp hum).2
    rw [e1, eqU_of rm (fl m _ (List.getElem?_eq_getElem hm'))]; exact no m _ hmj (List.getElem?_eq_getElem hm')
  · exact ⟨.int j, H, I.tok _, ⟨_, rfl⟩, q⟩
noncomputable def rIsiT (K : PySem.W.Frag) : List V → Hp → VK → Prop := fun xs H Q => ∃ x t p, ∃ cs : List String, ∃ b, xs = [x, .ref p] ∧ TyOf K H x t ∧ H p = some (.tup (cs.map V.ty)) ∧ PySem.W.kitAny K t (cs.map Value.type) = some b ∧ Q (.bl b) H
theorem vals_ty : ∀ {cs : List String} {us : List Value}, Vals (cs.map V.ty) us → us = cs.map Value.type
  | [], _, .nil => rfl
  | c :: r, _, .cons rx t => by
    have : _ = Value.type c := rx
    rw [this, vals_ty t]; rfl
theorem isi_tup {pins : List (Addr × Obj)} {σ : St} {H : Hp} {s : Shared} {A : Around} {E : Value → Shared → Prop} {Q : Value → Shared → Prop} {x : V} {u t : Value} {p : Addr} {cs : List String} {b : Bool} (I : Inv X pins σ H s) (rx : RelV x u) (ty : TyOf X.K H x t) (hp : H p = some (.tup (cs.map V.ty)))
    (e : PySem.W.kitAny X.K t (cs.map Value.type) = some b) (h : ∀ tk, Q (.bool b) { s with toks := tk }) : wpAny (model X.prog X.w) A (call (.builtin "isinstance") [u, .ref p]) Q E s := by
  obtain ⟨_, its, rv, o, ho, hc, n, hd⟩ := (show ObjOk X.prog X.w H s.heap p (.tup (cs.map V.ty)) from I.hok p _ hp)
  obtain ⟨oc, od, odt, osl⟩ := o
  have hc : oc = .type "tuple" := hc
  have hd : odt = .seq its.toArray n := hd
  subst hc hd
  rw [vals_ty rv] at ho
  cases ty with
  | non => cases (show u = Value.none from rx); exact PySem.W.kia_tup PySem.W.kitx_none I.kIn True.intro ho e (fun z => nomatch z) h
  | bl y => cases (show u = Value.bool y from rx); exact PySem.W.kia_tup PySem.W.kitx_bool I.kIn True.intro ho e (fun z => nomatch z) h
  | int i => obtain ⟨t, q⟩ := (show ∃ t, u = Value.int i t from rx); cases q; exact PySem.W.kia_tup PySem.W.kitx_int I.kIn True.intro ho e (fun z => nomatch z) h
  | str y => obtain ⟨t, q⟩ := (show ∃ t, u = Value.str y t from rx); cases q; exact PySem.W.kia_tup PySem.W.kitx_str I.kIn True.intro ho e (fun z => nomatch z) h
  | flt y => obtain ⟨t, q⟩ := (show ∃ t, u = Value.float y t from rx); cases q; exact PySem.W.kia_tup PySem.W.kitx_float I.kIn True.intro ho e (fun z => nomatch z) h
  | @lst a xs ea =>
    cases (show u = Value.ref a from rx)
    obtain ⟨_, _, n, _, h1⟩ := (show ObjOk X.prog X.w H s.heap a (.lst xs) from I.hok a _ ea)
    exact PySem.W.kia_tup PySem.W.kitx_list I.kIn ⟨_, h1, rfl⟩ ho e (fun z => nomatch z) h
  | @frz a ob xs ea =>
    cases (show u = Value.ref a from rx)
    obtain ⟨_, _, _, n, _, h1⟩ := (show ObjOk X.prog X.w H s.heap a (.frz ob (.lst xs)) from I.hok a _ ea)
    exact PySem.W.kia_tup PySem.W.kitx_list I.kIn ⟨_, h1, rfl⟩ ho e (fun z => nomatch z) h
  | @tup a xs ea =>
    cases (show u = Value.ref a from rx)
    obtain ⟨_, _, _, p⟩ := (show ObjOk X.prog X.w H s.heap a (.tup xs) from I.hok a _ ea)
    obtain ⟨o, h1, h2, _⟩ := p
    exact PySem.W.kia_tup PySem.W.kitx_tuple I.kIn ⟨o, h1, h2⟩ ho e (fun z => nomatch z) h
  | @dK a kvs ea =>
    cases (show u = Value.ref a from rx)
    obtain ⟨_, _, vs, _, p⟩ := (show ObjOk X.prog X.w H s.heap a (.dK kvs) from I.hok a _ ea)
    obtain ⟨o, es, ep, h1, h2, _⟩ := p
    exact PySem.W.kia_tup PySem.W.kitx_dict I.kIn ⟨o, h1, h2.1⟩ ho e (fun z => nomatch z) h
  | @dT a kvs ea =>
    cases (show u = Value.ref a from rx)
    obtain ⟨_, _, xs, _, o, es, ep, h1, h2, _⟩ := (show ObjOk X.prog X.w H s.heap a (.dT kvs) from I.hok a _ ea)
    exact PySem.W.kia_tup PySem.W.kitx_dict I.kIn ⟨o, h1, h2.1⟩ ho e (fun z => nomatch z) h
  | @ins a C dx fs ea cl ha hn htk hm =>
    cases (show u = Value.ref a from rx)
    obtain ⟨mA, O, _⟩ := ins_get I.hok ea
    obtain ⟨od, J, _⟩ := O.look
    exact PySem.W.kia_tup (PySem.W.kitx_own (cl.get _) cl.hd ha hn htk hm) I.kIn J ho e (fun z => nomatch z) h
theorem call_isiT : CallR X (.builtin "isinstance") (rIsiT X.K) := by
  intro pins s σ H xs us Q I r h
  obtain ⟨x, t, p, cs, b, rfl, ty, hp, e, q⟩ := h
  obtain ⟨u, v, rfl, rx, rc⟩ := vals2 r
  cases rc
  exact isi_tup I rx ty hp e fun tk => ⟨.bl b, H, I.tok _, rfl, q⟩
end
end L2
set_option Elab.async false
set_option linter.all false
set_option maxRecDepth 100000
set_option maxHeartbeats 2000000
namespace L2
open PySem PySem.Spec PyProof.Rows
structure RoomM (k : Nat) (A : Around) : Prop where
  dp : A.depth + 3 * k + 5 < recursionLimit
  un : A.units + 16 * k + 200 < cLine
theorem RoomM.mono {j k : Nat} {A : Around} (r : RoomM k A) (h : j ≤ k) : RoomM j A := ⟨by have := r.dp; omega, by have := r.un; omega⟩
theorem RoomM.deeper {k : Nat} {A : Around} (r : RoomM (k + 1) A) (env : Env) : RoomM k (A.deeper env) := ⟨by have := r.dp; show A.depth + 1 + 3 * k + 5 < _; omega, by have := r.un; show A.units + 3 + 16 * k + 200 < _; omega⟩
theorem RoomM.depth {k : Nat} {A : Around} (r : RoomM k A) : A.depth < recursionLimit := by have := r.dp; omega
theorem Room.marked {k : Nat} {A : Around} (r : Room k A) (e : Option Value) : RoomM k (A.mark e) := ⟨r.dp, r.un⟩
noncomputable abbrev Cx.rough (X : Cx) : Cx := { X with calm := false }
structure FnOkM (P : Program) (w : World) (K : PySem.W.Frag) (mg : Str → Option Value) (base : Heap) (k : Nat) (f : Addr) (fd : FuncData) (ps : List Str) (sp : Sp) : Prop where
  len : ∀ vs H Q E, sp vs H Q E → vs.length = ps.length
  run : ∀ (A : Around) (outer : List Env) (s : Shared) (H : Hp) (args : Args) (us : List Value) (vs : List V) (Q : VK), RoomM k A → Env0 P w K mg base A outer s H → BindsTo s fd args (ps.zip us) → Vals vs us → sp vs H Q E0 →
    codeAny (model P w) A (.call (.ref f) args) (CR (CX1 P w) outer P w H s Q E0) s
theorem inv_startM {CX : CXT} {P : Program} {w : World} {K : PySem.W.Frag} {mg : Str → Option Value} {base : Heap} {N ps : List Str} {qual : Str} {scope : Scope} {f : Addr} {cd : Value} {A : Around} {outer : List Env} {s s1 : Shared} {H : Hp} {E : XK} {us : List Value} {vs : List V}
    (S : FnScope N ps scope) (e0 : Env0 P w K mg base A outer s H) (hl : vs.length = ps.length) (r : Vals vs us)
    (x : InCallC s s.heap.objs.size (bindL (envOfC qual scope s.heap.objs.size f cd).kindOf (ps.zip us) fun _ => none) (cellsFrom (s.heap.objs.size + 1) scope.names []) (bindC (envOfC qual scope s.heap.objs.size f cd).kindOf (ps.zip us) fun _ => none) s1) :
    Inv (cxOf CX P w K mg base N qual scope f cd A outer s H E).rough [] (start N vs) H s1 := by
  have I : Inv (cxOf CX P w K mg base N qual scope f cd { A with handled := none } outer s H E) [] (start N vs) H s1 := inv_start (A := { A with handled := none }) S rfl ⟨e0.frames, e0.mod, e0.bs, e0.bsz, e0.funs, e0.frf, e0.hok, e0.bare⟩ hl r x
  exact ⟨⟨I.ok.mod, I.ok.kind, I.ok.glob, I.ok.blt, I.ok.above, I.ok.inj, I.ok.has, I.ok.cab, (fun z => nomatch z), Around.frames_deeper e0.frames, I.ok.stk, I.ok.exf, I.ok.bs, I.ok.bsz, I.ok.noex, I.ok.exfs, I.ok.funs, I.ok.frf⟩, I.os, I.bare, I.base, I.loc, I.cell, I.free, I.freeC, I.pin, I.hok, I.len⟩
theorem fn_ofM {P : Program} {w : World} {K : PySem.W.Frag} {mg : Str → Option Value} {base : Heap} {k : Nat} {f : Addr} {name qual : Str} {params : Arguments} {body : List Stmt} {scope : Scope} {dV kV doc pm cdv ct oc : Value} {an od : Option Addr}
    {osl : Array (Option Value)} {N ps : List Str} {sp : Sp} (lk : K.lookup f = some ⟨oc, od, .func (PySem.W.fnOf name qual params body scope dV kV doc pm an cdv ct), osl⟩) (hcd : PySem.W.codeIn K cdv qual = true) (S : FnScope N ps scope)
    (len : ∀ vs H Q E, sp vs H Q E → vs.length = ps.length)
    (hbody : ∀ (A : Around) (outer : List Env) (s : Shared) (H : Hp) (vs : List V) (Q : VK), RoomM k (A.deeper (envOfC qual scope s.heap.objs.size f cdv)) → sp vs H Q E0 →
      ∃ t, PSs (cxOf (CX1 P w) P w K mg base N qual scope f cdv A outer s H E0).rough body t ∧ t { nx := fun _ H' => Q .non H', rt := Q } (start N vs) H) :
    FnOkM P w K mg base (k + 1) f (PySem.W.fnOf name qual params body scope dV kV doc pm an cdv ct) ps sp := by
  refine ⟨len, fun A outer s H args us vs Q hr e0 hb r hsp => ?_⟩
  have hl := len _ _ _ _ hsp
  have KX : K.In s.heap := e0.mod.kin.keeps fun b o e => (e0.bs b o e).1
  have lim : s.heap.NoLimit := e0.mod.nolimit.keeps fun b o e => (e0.bs b o e).1
  have hkind : ∀ y ∈ ps.zip us, scope.names.lookup y.1 = some .local ∨ (scope.names.lookup y.1 = some .cell ∧ ((cellsFrom (s.heap.objs.size + 1) scope.names []).lookup y.1).isSome = true) := fun ⟨n, v⟩ hy => by
    rcases S.par n (List.of_mem_zip hy).1 with q | q
    · exact .inl q
    · exact .inr ⟨q, PySem.W.cellsFrom_some _ _ _ (.inl q)⟩
  refine codeAny_call_function hr.depth (KX _ _ lk) rfl S.co S.gen rfl (PySem.W.codeRec_of KX hcd) (hb _ _ _ _ ?_)
  refine wpAny_newFunctionEnv_cells S.kind hkind fun env he s1 x => ?_
  subst he
  refine ⟨lim.keeps x.toInCall.keep, codeAny_func ?_⟩
  obtain ⟨t, ht, hq⟩ := hbody A outer s H vs Q (hr.deeper _) hsp
  have I : Inv (cxOf (CX1 P w) P w K mg base N qual scope f cdv A outer s H E0).rough [] (start N vs) H s1 := inv_startM S e0 hl r x
  refine wpAny_mono (ht [] s1 (start N vs) H _ I hq) (fun fl s' hs => ?_) fun e s' hs => hs
  have fin : ∀ {σ' : St} {H' : Hp} {v : V} {u : Value}, Inv (cxOf (CX1 P w) P w K mg base N qual scope f cdv A outer s H E0).rough [] σ' H' s' → RelV v u → Q v H' → CE outer P w H s Q u s' :=
    fun {σ' H' v u} J rv q => ⟨v, H', J.os, J.bare, J.base, J.hok, rv, q⟩
  cases fl with
  | ret u =>
    obtain ⟨v, σ', H', J, rv, q⟩ := hs
    exact fin J rv q
  | next =>
    obtain ⟨σ', H', J, q⟩ := hs
    exact fin (v := V.non) (u := Value.none) J rfl q
  | brk =>
    obtain ⟨_, _, _, q⟩ := hs
    exact False.elim q
  | cont =>
    obtain ⟨_, _, _, q⟩ := hs
    exact False.elim q
structure FnM (P : Program) (w : World) (K : PySem.W.Frag) (mg : Str → Option Value) (base : Heap) (x : Str) (ps : List Str) (k : Nat) (sp : Sp) : Prop where
  ex : ∃ f fd, FnOkM P w K mg base k f fd ps sp ∧ mg x = some (.ref f) ∧ PySem.W.keepIn K (.ref f) = true ∧ Binds K fd ps []
section
variable {P : Program} {w : World} {K : PySem.W.Frag} {mg : Str → Option Value} {base : Heap}
theorem Def.okM {x : Str} {st : Stmt} {N ps : List Str} {k : Nat} {sp : Sp} (D : Def K mg x st) (S : FnScope N ps (defScope st)) (B : BindsAll x st ps) (len : ∀ vs H Q E, sp vs H Q E → vs.length = ps.length)
    (hbody : ∀ (f : Addr) (cdv : Value) (A : Around) (outer : List Env) (s : Shared) (H : Hp) (vs : List V) (Q : VK), RoomM k (A.deeper (envOfC x (defScope st) s.heap.objs.size f cdv)) → sp vs H Q E0 →
      ∃ t, PSs (cxOf (CX1 P w) P w K mg base N x (defScope st) f cdv A outer s H E0).rough (defBody st) t ∧ t { nx := fun _ H' => Q .non H', rt := Q } (start N vs) H) : FnM P w K mg base x ps (k + 1) sp := by
  obtain ⟨f, fd, F, hm⟩ := D.ex
  have kp := F.kp
  have bd := F.binds B
  obtain ⟨oc, od, kV, doc, pm, an, cdv, ct, osl, rfl, lk, hcd⟩ := F.ex
  exact ⟨f, _, fn_ofM lk hcd S len fun A outer s H vs Q hr hsp => hbody f cdv A outer s H vs Q hr hsp, hm, kp, bd⟩
end
section
variable {X : Cx}
theorem cFnM {x : Str} {p pos : Pos} {e : Expr} {es : List Expr} {t : TA} {ps : List Str} {k k' : Nat} {sp : Sp} (F : FnM X.prog X.w X.K X.mg X.base x ps k' sp) (hr : RoomM k X.A) (ha : PA X (e :: es) t) (hkk : k' ≤ k := by decide) (hg : Gl X x := by rfl)
    (hs : plainE e = true := by rfl) (hp : es.all plainE = true := by rfl) (hdb : (x == ("__debug__" : Str)) = false := by decide) : PE X (.Call (.Name x p) (e :: es) [] pos) (tCall sp [] E0 t) := by
  obtain ⟨f, fd, F, hm, hk, hb⟩ := F.ex
  intro pins s σ H Q I h
  refine wpAny_Call_Name_kw (ld_glob I hg hm ?_ hdb)
  refine PySem.W.callWith_K (h₀ := X.base) I.ok.mod.kin hk (thn (ha pos pins s σ H _ I h) fun us s1 ⟨vs, H1, I1, r, q⟩ => ⟨I1.kIn, ?_⟩) (star_plain hs) (any_plain hp)
  have r2 : Vals (vs ++ []) (us ++ []) := r.append .nil
  have hl : (us ++ []).length = ps.length := by rw [← r2.length]; exact F.len _ _ _ _ q
  refine wpAny_call (codeAny_mono (F.run X.A X.stack s1 H1 ⟨us, []⟩ (us ++ []) (vs ++ []) Q (hr.mono hkk) I1.env0 (hb s1 us I1.kIn hl) r2 q) fun r s' hq => ?_)
  cases r with
  | error e =>
    obtain ⟨_, _, _, _, _, _, _, _, _, _, z⟩ := (show CX1 X.prog X.w X.stack H1 s1 E0 e s' from hq)
    exact z.elim
  | ok fl =>
    cases fl with
    | ret u => exact I1.after hq
    | next => exact False.elim hq
    | brk => exact False.elim hq
    | cont => exact False.elim hq
end
noncomputable def exPhi (ea C : Addr) (d : Option Addr) : Heap → Prop := fun h => ∃ o vs, h.get? ea = some o ∧ (o.cls = .ref C ∧ Dx o d) ∧ o.data = .fields vs
theorem exPhi_keep {ea C : Addr} {d : Option Addr} : ∀ h1 h2 : Heap, exPhi ea C d h1 → (∀ o, h1.get? ea = some o → h2.get? ea = some o) → exPhi ea C d h2 := fun _ _ ⟨o, vs, e, c, d⟩ k => ⟨o, vs, k o e, c, d⟩
section
variable {X : Cx} {pins : List (Addr × Obj)} {σ : St} {H : Hp} {s : Shared} {ea C : Addr} {d : Option Addr}
theorem Inv.track (I : Inv X pins σ H s) (n : H ea = none) (p : exPhi ea C d s.heap) (h0 : X.s₀.heap.get? ea = none) (h1 : ea ≠ X.env.locals) (h2 : ∀ x c, X.env.cells.lookup x = some c → c ≠ ea) (h3 : ∀ p ∈ X.pn ++ pins, p.1 ≠ ea) :
    Inv X pins σ (upd H ea (.ext (exPhi ea C d))) s := by
  have keep : ∀ {b : Addr} {o : HO}, H b = some o → upd H ea (.ext (exPhi ea C d)) b = some o := fun {b o} e => by rw [upd_ne (by rintro rfl; rw [n] at e; cases e)]; exact e
  have none' : ∀ {b : Addr}, b ≠ ea → H b = none → upd H ea (.ext (exPhi ea C d)) b = none := fun {b} hb e => by rw [upd_ne hb]; exact e
  refine ⟨I.ok, I.os, I.bare, ⟨I.base.keep, I.base.slot, fun b o q z hx => ?_, I.base.there, fun b xs e => keep (I.base.tups b xs e), fun b o u e => keep (I.base.frzs b o u e), fun b ps e => ?_⟩, I.loc, I.cell, none' (Ne.symm h1) I.free, fun x c e => none' (h2 x c e) (I.freeC x c e), fun p hp => ?_, fun b o e => ?_, I.len⟩
  · exact none' (by rintro rfl; rw [h0] at q; cases q) (I.base.free b o q z hx)
  · obtain ⟨m, q⟩ := I.base.tbls b ps e
    exact ⟨m, keep q⟩
  · obtain ⟨e, z, r⟩ := I.pin p hp
    exact ⟨e, none' (h3 p hp) z, r⟩
  · by_cases hb : b = ea
    · subst hb
      rw [upd_same] at e; cases e
      obtain ⟨o, vs, q, _⟩ := id p
      exact ⟨p, ⟨o, q⟩, exPhi_keep⟩
    · rw [upd_ne hb] at e
      exact (I.hok b o e).stay (fun c v _ q => q) (fun c q => keep q) fun c xs q => keep q
theorem forget_ok {M : Model} {A : Around} {E : Value → Shared → Prop} {i : Nat} {x : Str} {pos : Pos} {Q : Unit → Shared → Prop} (I : Inv X pins σ H s) (hN : X.N.Nodup) (hi : X.N[i]? = some x) (hx : X.env.scope.names.lookup x = some .local)
    (h : ∀ s', Inv X pins (σ.set i none) H s' → Q () s') : wpAny M A (do bindName X.env x .none; unbindBehindTheSuite X.env x pos) Q E s := by
  obtain ⟨m, hn, hl⟩ := id I.loc
  have hcls : (X.env.scope.kind == .class || (X.env.scope.kind == .module && X.env.locals != X.env.globals)) = false := by rw [I.ok.kind]; rfl
  have hiσ : i < σ.length := by rw [I.len]; exact (List.getElem?_eq_some_iff.mp hi).1
  have cne := I.cne
  obtain ⟨oL, _, _, hoL, _⟩ := id hn
  refine wpAny_nameGoes_keeps hx hn hcls fun h' v hn' hs => ?_
  have hs : Heap.SameBut X.env.locals s.heap h' := hs
  refine h _ ⟨I.ok, I.os, I.bare, ⟨fun b o e n hb hx => ?_, fun b o e n hb hx => ?_, I.base.free, fun b o e hx => ?_, I.base.tups, I.base.frzs, I.base.tbls⟩, ⟨_, hn', fun j y v' e1 e2 e3 => ?_⟩, fun y c e => ?_, I.free, I.freeC, fun p hp => ?_, fun b ob e => ?_, by simpa using I.len⟩
  · exact (hs.2 b (Nat.ne_of_lt (Nat.lt_of_lt_of_le (Heap.lt_size e) I.ok.above))).trans (I.base.keep b o e n hb hx)
  · obtain ⟨sl, e1⟩ := I.base.slot b o e n hb hx
    exact ⟨sl, (hs.2 b (Nat.ne_of_lt (Nat.lt_of_lt_of_le (Heap.lt_size e) I.ok.above))).trans e1⟩
  · obtain ⟨o', e1⟩ := I.base.there b o e hx
    exact ⟨o', (hs.2 b (Nat.ne_of_lt (Nat.lt_of_lt_of_le (Heap.lt_size e) I.ok.above))).trans e1⟩
  · by_cases hj : j = i
    · subst hj
      rw [List.getElem?_set_self hiσ] at e2
      cases e2
    · rw [List.getElem?_set_ne (Ne.symm hj)] at e2
      obtain ⟨u', r', q⟩ := hl j y v' e1 e2 e3
      refine ⟨u', r', ?_⟩
      rcases q with ⟨k, e⟩ | ⟨k, c, e, z⟩
      · refine .inl ⟨k, ?_⟩
        have : y ≠ x := fun e => hj (nodup_ix hN e1 (e ▸ hi))
        simp [this, e]
      · exact .inr ⟨k, c, e, z.sameBut hs (cne y c e)⟩
  · obtain ⟨w', z⟩ := I.cell y c e
    exact ⟨w', z.sameBut hs (cne y c e)⟩
  · obtain ⟨e, n, ne, nf, d⟩ := I.pin p hp
    exact ⟨(hs.2 p.1 ne).trans e, n, ne, nf, d⟩
  · refine (I.hok b ob e).stay (fun c w' hc q => (hs.2 c ?_).trans q) (fun _ q => q) fun _ _ q => q
    rintro rfl
    rcases hc with rfl | hc
    · rw [I.free] at e; cases e
    · rw [I.free] at hc; cases hc
end
noncomputable def Ends.less (D : Ends) (i : Nat) : Ends := { nx := fun σ H => D.nx (σ.set i none) H, rt := D.rt, bk := fun σ H => D.bk (σ.set i none) H, ct := fun σ H => D.ct (σ.set i none) H }
noncomputable def hAs (K : PySem.W.Frag) (C1 : Addr) (i : Nat) (ts : TS) (tr : TH) : TH := fun C d D σ H => (PySem.W.exmOne K C (.ref C1) = some true ∧ ∃ c, C = .ref c ∧ ∀ ea, H ea = none → ts (D.less i) (σ.set i (some (.ref ea))) (upd H ea (.ext (exPhi ea c d)))) ∨ (PySem.W.exmOne K C (.ref C1) = some false ∧ tr C d D σ H)
section
variable {X : Cx}
theorem ph_as {x n : Str} {i : Nat} {np pos : Pos} {b₀ : Stmt} {suite : List Stmt} {rest : List ExceptHandler} {C1 : Addr} {ts : TS} {tr : TH} (O : Own X) (hm : X.mg x = some (.ref C1)) (hN : X.N.Nodup) (hi : X.N[i]? = some n) (hl : X.env.scope.names.lookup n = some .local)
    (hb : ∀ ea, PSs (X.mark ea).nox (b₀ :: suite) ts) (hr : PH X rest tr) (hg : Gl X x := by rfl) (hdb : (x == ("__debug__" : Str)) = false := by decide) :
    PH X (.ExceptHandler (some (.Name x np)) (some n) (b₀ :: suite) pos :: rest) (hAs X.K C1 i ts tr) := by
  intro pins s σ H D ea C d I f h
  have hcls : ∃ oe, s.heap.get? ea = some oe ∧ oe.cls = C := by
    obtain ⟨oe, vs, T, oT, ts, a0, he, ⟨hc, _⟩, _⟩ := f
    exact ⟨oe, he, hc⟩
  obtain ⟨oe, he, hc⟩ := hcls
  subst hc
  refine wpAny_handleBy_cons (codeAny_handlers_test (ld_glob (X := X.mark ea) (I.mark ea) hg hm ?_ hdb)) (by intro q; cases q)
  have LT : PySem.W.Looks (model X.prog X.w) s.heap (typeOf (.ref ea)) oe.cls := (PySem.W.Looks.ld he).andThen .now
  rcases h with ⟨hx, c, hc, h⟩ | ⟨hx, h⟩
  · refine (PySem.W.exm_one I.kIn LT hx).here ?_
    refine codeAny_handlers_suite_as (land_fly O I f fun h' I' f' => ?_)
    obtain ⟨oe', vs, T, oT, ts', a0, he', ⟨hc', hx'⟩, h0, hd, h1, hne, hT, hdT, h3, n1, n2, hb'⟩ := f'
    obtain ⟨y1, y2, y3, y4⟩ := hb' ea (.inl rfl)
    have It := I'.track (C := c) n1 ⟨oe', vs, he', ⟨by rw [hc', hc], hx'⟩, hd⟩ y1 y2 y3 y4
    refine store_ok (X := X) It hN hi (.inl hl) (v := .ref ea) rfl (fun s2 I2 => ?_) (.inr hl)
    refine wpAny_mono (hb ea pins s2 _ _ (D.less i) ((I2.mark ea).wish _) (h ea n1)) (fun fl s3 q => ?_) (fun _ _ z => z.elim)
    have q := SP.unmark I.ok (SP.unwish q)
    cases fl with
    | next => obtain ⟨σ', H', J, q⟩ := q; exact forget_ok J hN hi hl fun s4 J' => ⟨_, H', J', q⟩
    | brk => obtain ⟨σ', H', J, q⟩ := q; exact forget_ok J hN hi hl fun s4 J' => ⟨_, H', J', q⟩
    | cont => obtain ⟨σ', H', J, q⟩ := q; exact forget_ok J hN hi hl fun s4 J' => ⟨_, H', J', q⟩
    | ret u => obtain ⟨v, σ', H', J, r, q⟩ := q; exact forget_ok J hN hi hl fun s4 J' => ⟨v, _, H', J', r, q⟩
  · exact (PySem.W.exm_one I.kIn LT hx).here (hr pins s σ H D ea _ d I f h)
end
end L2
set_option Elab.async false
set_option linter.all false
set_option maxRecDepth 100000
set_option maxHeartbeats 2000000
namespace L2
open PySem PySem.Spec PyProof.Rows Builtin Builtin.ObjectAttr Builtin.Getset_descriptor
section
variable {prog : Program} {w : World} {A : Around} {E : Value → Shared → Prop} {s : Shared} {K : PySem.W.Frag} {ea C : Addr} {oe : Obj} {R : Result → Shared → Prop}
theorem exc_get {tp : Value} (X : K.In s.heap) (he : s.heap.get? ea = some oe) (hc : oe.cls = .ref C) (hm : PySem.W.mroIn K C (.type "object") = some true) (h : R (.ok (.ret (.ref C))) s) :
    codeAny (model prog w) A (.call (.builtin "getset_descriptor.__get__") ⟨[.builtin "object.__class__", .ref ea, tp], []⟩) R s := by
  obtain ⟨hh, g, dr, t, os⟩ := s
  have L0 : PySem.W.Looks (model prog w) hh (typeOf (.ref ea)) (.ref C) := hc ▸ (PySem.W.Looks.ld he).andThen .now
  have L1 := PySem.W.looks_mroIn (M := model prog w) X hm
  refine codeAny_call_builtin PySem.W.KF.slot_gs.plain PySem.W.KF.entry_gs (PySem.W.KF.slot_gs.check _ _ _ _ _ _ _ _ PySem.W.KF.type_class (PySem.W.KF.args_gs _ _ _) ?_)
  unfold Builtin.«getset_descriptor.__get__» descrGet; rw [PySem.W.dga_obj]; refine wpAny_bind (wpAny_pure ?_); unfold descrGetter descrCheckInstance descrNameAndClass isInstance
  simp only [PySem.W.KF.owner_class]; repeat lk
  refine ⟨Code.quiet_builtin _ (by decide +kernel), codeAny_builtin PySem.W.KF.entry_class ?_⟩; unfold Builtin.«object.__class__» shownTypeOf; repeat lk
  exact h
structure ExcC (K : PySem.W.Frag) (C : Addr) : Prop where
  ga : PySem.W.findIn K (.ref C) "__getattribute__" = some (some (.builtin "BaseException.__getattribute__"))
  gt : PySem.W.findIn K (.ref C) "__getattr__" = some none
  cl : PySem.W.findIn K (.ref C) "__class__" = some (some (.builtin "object.__class__"))
  sp : PySem.W.specialIn K (.builtin "object.__class__") "__get__" = some (some (.builtin "getset_descriptor.__get__"))
  tk : PySem.W.takesIn K (.builtin "object.__class__") = some true
  mo : PySem.W.mroIn K C (.type "object") = some true
  mb : PySem.W.mroIn K C (.type "BaseException") = some true
theorem exc_entry {tk : Tok} {Q : Fin → Shared → Prop} (G : ExcC K C) (X : K.In s.heap) (he : s.heap.get? ea = some oe) (hc : oe.cls = .ref C) (h : Q (.done (.ret (.ref C))) s) :
    wpAny (model prog w) A (Builtin.«object.__getattribute__» ⟨[.ref ea, .str "__class__" tk], []⟩) Q E s := by
  obtain ⟨hh, g, dr, t, os⟩ := s
  have L0 : PySem.W.Looks (model prog w) hh (typeOf (.ref ea)) (.ref C) := hc ▸ (PySem.W.Looks.ld he).andThen .now
  have L1 := PySem.W.looks_findIn (M := model prog w) X G.cl
  have L2 : PySem.W.Looks (model prog w) hh (getOf (some (.builtin "object.__class__"))) (some (.builtin "getset_descriptor.__get__")) := PySem.W.looks_specialIn X G.sp
  have L3 := PySem.W.looks_takesIn (M := model prog w) X G.tk
  have L4 : PySem.W.Looks (model prog w) hh (find (.ref ea) (.ref C) "__class__") (.bind (.builtin "getset_descriptor.__get__") (.builtin "object.__class__")) :=
    L1.andThen (L2.andThen ((show PySem.W.Looks (model prog w) hh (dataDescriptor? (some (.builtin "object.__class__")) (some (.builtin "getset_descriptor.__get__"))) (some (.builtin "getset_descriptor.__get__", .builtin "object.__class__")) from L3.andThen .now).andThen (PySem.W.Looks.tag .now)))
  refine wpAny_bind (wpAny_pure (wpAny_bind (wpAny_pure (wpAny_bind (L0.at (wpAny_bind (L4.at ?_)))))))
  show wpAny _ _ (bindTo _ _ _ _) _ _ _
  unfold bindTo
  show wpAny _ _ (holding [.builtin "object.__class__"] (call (.builtin "getset_descriptor.__get__") [.builtin "object.__class__", .ref ea, .ref C]) >>= ret) _ _ _
  refine wpAny_bind (wpAny_holding (wpAny_call (exc_get (s := ⟨hh, g, dr, t, os⟩) X he hc G.mo ?_)))
  exact wpAny_pure h
theorem bind_ga {x : Value} : bindSpecial (.builtin "BaseException.__getattribute__") x = pure (Value.builtin "BaseException.__getattribute__", [x]) := by
  have e : typeOf (.builtin "BaseException.__getattribute__") = pure (.type "wrapper_descriptor") := by kernel_rfl
  unfold bindSpecial; rw [e]; rfl
theorem plain_ga : plainId "BaseException.__getattribute__" = true := by decide +kernel
theorem handed_on' {M : Model} {C : Addr} {Q : Value → Shared → Prop} (h : Q (.ref C) s) : wpAny M A (handedOut (.ref C)) Q E s := PySem.W.handed_on rfl h
theorem exc_class {Q : Option Value → Shared → Prop} (G : ExcC K C) (X : K.In s.heap) (he : s.heap.get? ea = some oe) (hc : oe.cls = .ref C) (h : Q (some (.ref C)) { s with toks := s.toks + 1 }) : wpAny (model prog w) A (getAttr? (.ref ea) "__class__") Q E s := by
  obtain ⟨hh, g, d, t, os⟩ := s
  have L0 : PySem.W.Looks (model prog w) hh (typeOf (.ref ea)) (.ref C) := hc ▸ (PySem.W.Looks.ld he).andThen .now
  have L1 := PySem.W.looks_findIn (M := model prog w) X G.ga
  have L2 := PySem.W.looks_findIn (M := model prog w) X G.gt
  unfold getAttr? getAttrBy? getAttrBy
  refine wpAny_bind (wpAny_mkText (wpAny_bind (wpAny_attempt (wpAny_holding (wpAny_bind (L0.at (wpAny_bind (L1.at ?_)))))))); show wpAny _ _ (getAttrByItsOwn _ _ _ _ _ _) _ _ _
  unfold getAttrByItsOwn
  refine wpAny_bind ?_
  show wpAny _ _ (typeLookup (.ref C) "__getattr__") _ _ _
  refine L2.at ?_
  refine wpAny_bind (wpAny_attempt (wpAny_holding ?_))
  show wpAny _ _ (boundAndCalled (.builtin "BaseException.__getattribute__") (.ref ea) _) _ _ _
  unfold boundAndCalled
  refine wpAny_bind (wpAny_of_eq (a := (Value.builtin "BaseException.__getattribute__", [Value.ref ea])) bind_ga ?_)
  refine wpAny_call (codeAny_call_builtin plain_ga F.entry_bexc_ga ?_)
  have hk : builtinKind "BaseException.__getattribute__" = some .slot := by decide +kernel
  have hs : splitId "BaseException.__getattribute__" = some ("BaseException", "__getattribute__") := by decide +kernel
  have L5 : PySem.W.Looks (model prog w) hh (isInstance (.ref ea) (.type "BaseException")) true := L0.andThen (PySem.W.looks_mroIn X G.mb)
  have ha := F.args_bexc_ga (.ref ea) (.str "__class__" t)
  simp only [checkBuiltinCall, hk, hs]
  refine wpAny_bind (L5.at ?_)
  rw [if_neg (by decide)]
  refine wpAny_of_eq (a := ()) ha ?_
  refine exc_entry (s := ⟨hh, g, d, t + 1, os⟩) G X he hc ?_
  exact handed_on' (wpAny_pure h)
theorem kitx_exc {d : Option Addr} (G : ExcC K C) : PySem.W.KitX K (.ref ea) (.ref C) (exPhi ea C d) where
  ty := fun M h _ ⟨o, vs, he, ⟨hc, _⟩, _⟩ => hc ▸ (PySem.W.Looks.ld he).andThen .now
  it := fun M h X _ => by
    have z := G.mo
    unfold PySem.W.mroIn at z
    obtain ⟨cd, hcd, _⟩ := Option.bind_eq_some_iff.mp z
    unfold PySem.W.clsIn at hcd
    split at hcd
    · rename_i c' d' cd' sl' ho
      intro A' Q' E' s' k q; unfold isType loadHead; exact wpAny_bind (wpAny_loadPart (k _ _ (X _ _ ho)) (wpAny_pure q))
    · cases hcd
  ne := fun h tp dd its n sl X htp => by
    have z := G.mo
    unfold PySem.W.mroIn at z
    obtain ⟨cd, hcd, _⟩ := Option.bind_eq_some_iff.mp z
    refine Bool.eq_false_iff.mpr fun q => ?_
    have e : C = tp := Value.ref.inj (beq_iff_eq.mp q); subst e; unfold PySem.W.clsIn at hcd
    split at hcd
    · rename_i c' d' cd' sl' ho
      have z := (X _ _ ho).symm.trans htp
      cases z
    · cases hcd
  ca := fun X ⟨o, vs, he, ⟨hc, _⟩, _⟩ k => exc_class G X he hc k
end
section
variable {X : Cx}
noncomputable def rIsiE (K : PySem.W.Frag) : List V → Hp → VK → Prop := fun xs H Q => ∃ ea C d cv c b, xs = [.ref ea, cv] ∧ ((∃ T, cv = .ty T ∧ c = .type T) ∨ (∃ a, cv = .ref a ∧ c = .ref a)) ∧ H ea = some (.ext (exPhi ea C d)) ∧ ExcC K C ∧ PySem.W.kitOne K (.ref C) c = some b ∧ Q (.bl b) H
theorem call_isiE : CallR X (.builtin "isinstance") (rIsiE X.K) := by
  intro pins s σ H xs us Q I r h
  obtain ⟨ea, C, d, cv, c, b, rfl, hcv, he, G, e, q⟩ := h
  obtain ⟨u, v, rfl, rx, rc⟩ := vals2 r
  cases rx
  have hv : v = c := by
    rcases hcv with ⟨T, rfl, rfl⟩ | ⟨a, rfl, rfl⟩
    · exact rc
    · exact rc
  subst hv
  obtain ⟨ph, _⟩ := (show ObjOk X.prog X.w H s.heap ea (.ext (exPhi ea C d)) from I.hok ea _ he)
  exact PySem.W.kia_one (kitx_exc G) I.kIn ph e (fun z => nomatch z) fun tk => ⟨.bl b, H, I.tok _, rfl, q⟩
end
end L2
set_option Elab.async false
set_option linter.all false
set_option maxRecDepth 100000
set_option maxHeartbeats 2000000
namespace L2
open PySem PySem.Spec PyProof.Rows
section
variable {X : Cx}
end
end L2
set_option Elab.async false
set_option linter.all false
set_option maxRecDepth 100000
set_option maxHeartbeats 2000000
namespace L2
open PySem PySem.Spec PyProof.Rows
theorem len_cons {us : List Value} {n : Nat} (h : us.length = n + 1) : ∃ u t, us = u :: t ∧ t.length = n := by
  cases us with
  | nil => cases h
  | cons u t => exact ⟨u, t, rfl, Nat.succ.inj h⟩
theorem len_nil {us : List Value} (h : us.length = 0) : us = [] := List.eq_nil_of_length_eq_zero h
theorem binds1 {x : Str} {st : Stmt} {a : Str} (h : ∀ (kV doc pm : Value) (an : Option Addr) (cdv ct u0 : Value), bindArgs (PySem.W.fnOf x x (defArgs st) (defBody st) (defScope st) .none kV doc pm an cdv ct) ⟨[u0], []⟩ = pure [(a, u0)]) : BindsAll x st [a] :=
  fun kV doc pm an cdv ct us h0 => by
    obtain ⟨u0, t1, rfl, h1⟩ := len_cons h0
    obtain rfl := len_nil h1
    exact h kV doc pm an cdv ct u0
theorem binds2 {x : Str} {st : Stmt} {a b : Str} (h : ∀ (kV doc pm : Value) (an : Option Addr) (cdv ct u0 u1 : Value), bindArgs (PySem.W.fnOf x x (defArgs st) (defBody st) (defScope st) .none kV doc pm an cdv ct) ⟨[u0, u1], []⟩ = pure [(a, u0), (b, u1)]) : BindsAll x st [a, b] :=
  fun kV doc pm an cdv ct us h0 => by
    obtain ⟨u0, t1, rfl, h1⟩ := len_cons h0
    obtain ⟨u1, t2, rfl, h2⟩ := len_cons h1
    obtain rfl := len_nil h2
    exact h kV doc pm an cdv ct u0 u1
theorem binds3 {x : Str} {st : Stmt} {a b c : Str} (h : ∀ (kV doc pm : Value) (an : Option Addr) (cdv ct u0 u1 u2 : Value), bindArgs (PySem.W.fnOf x x (defArgs st) (defBody st) (defScope st) .none kV doc pm an cdv ct) ⟨[u0, u1, u2], []⟩ = pure [(a, u0), (b, u1), (c, u2)]) : BindsAll x st [a, b, c] :=
  fun kV doc pm an cdv ct us h0 => by
    obtain ⟨u0, t1, rfl, h1⟩ := len_cons h0
    obtain ⟨u1, t2, rfl, h2⟩ := len_cons h1
    obtain ⟨u2, t3, rfl, h3⟩ := len_cons h2
    obtain rfl := len_nil h3
    exact h kV doc pm an cdv ct u0 u1 u2
theorem binds4 {x : Str} {st : Stmt} {a b c d : Str} (h : ∀ (kV doc pm : Value) (an : Option Addr) (cdv ct u0 u1 u2 u3 : Value), bindArgs (PySem.W.fnOf x x (defArgs st) (defBody st) (defScope st) .none kV doc pm an cdv ct) ⟨[u0, u1, u2, u3], []⟩ = pure [(a, u0), (b, u1), (c, u2), (d, u3)]) : BindsAll x st [a, b, c, d] :=
  fun kV doc pm an cdv ct us h0 => by
    obtain ⟨u0, t1, rfl, h1⟩ := len_cons h0
    obtain ⟨u1, t2, rfl, h2⟩ := len_cons h1
    obtain ⟨u2, t3, rfl, h3⟩ := len_cons h2
    obtain ⟨u3, t4, rfl, h4⟩ := len_cons h3
    obtain rfl := len_nil h4
    exact h kV doc pm an cdv ct u0 u1 u2 u3
section
variable {X : Cx}
theorem pss_cutF {ι : Type} {st : Stmt} {rest : List Stmt} {t u : TS} (G : ι → St → Hp → Prop) (h1 : PS X st t) (h2 : PSs X rest u) : PSs X (st :: rest) (fun D σ H => ∃ i : ι, (∀ σ' H', G i σ' H' → u D σ' H') ∧ t { D with nx := G i } σ H) := by
  intro pins s σ H D I ⟨i, ha, hb⟩
  exact pss_cut (G i) h1 h2 pins s σ H D I ⟨ha, hb⟩
end
end L2
set_option Elab.async false
set_option linter.all false
set_option maxRecDepth 100000
set_option maxHeartbeats 2000000
set_option exponentiation.threshold 10000
namespace L2
open PySem PySem.Spec PyProof.Rows
section
variable {X : Cx}
end
end L2
set_option Elab.async false
set_option linter.all false
set_option maxRecDepth 100000
set_option maxHeartbeats 2000000
namespace L2
open PySem PySem.Spec PyProof.Rows
section
variable {X : Cx} {pins : List (Addr × Obj)} {σ : St} {H : Hp} {s : Shared}
theorem comp_back {scope : Scope} {lv : Nat} {caps : List Nat} {N' : List Str} {fp : List Addr} {C : Addr} {H3 H5 : Hp} {s3 s6 : Shared} {h' : Heap} (hC : s3.heap.objs.size ≤ C) (I3 : Inv X pins σ H3 s3) (f3 : ∀ b ∈ fp, FpOk X pins H3 b)
    (I6 : Inv (X.comp scope C N' s3 H3 fp) [] (seen lv caps σ) H5 s6) (hs' : Heap.SameBut C s6.heap h') : Inv X pins σ H5 { s6 with heap := h' } := by
  have ub := I6.base
  have neC : ∀ b o, s3.heap.get? b = some o → b ≠ C := fun b o q => Nat.ne_of_lt (Nat.lt_of_lt_of_le (Heap.lt_size q) hC)
  refine I3.call' (ch := fp) (s' := { s6 with heap := h' }) I6.os ⟨fun b o q n hb hx => (hs'.2 b (neC b o q)).trans (ub.keep b o q n hb hx), fun b o q n hb hx => ?_, ub.free, fun b o q hx => ?_, ub.tups, ub.frzs, ub.tbls⟩ ?_ I6.bare (fun b hb => ?_)
  · obtain ⟨sl, e⟩ := ub.slot b o q n hb hx
    exact ⟨sl, (hs'.2 b (neC b o q)).trans e⟩
  · obtain ⟨o', e⟩ := ub.there b o q hx
    exact ⟨o', (hs'.2 b (neC b o q)).trans e⟩
  · intro b o q
    refine (I6.hok b o q).stay (fun c u hc' q' => (hs'.2 c ?_).trans q') (fun _ z => z) fun _ _ z => z
    intro ec
    have fC : H5 C = none := I6.free
    rcases hc' with z | z
    · rw [← z, ec, fC] at q; cases q
    · rw [ec, fC] at z; cases z
  · obtain ⟨_, y1, _, y3, y4, y5⟩ := f3 b hb
    exact ⟨y3, y1, y4, y5⟩
theorem comp_use {scope : Scope} {lv : Nat} {caps : List Nat} {N' : List Str} {fp : List Addr} {C : Addr} {H3 H5 : Hp} {s3 s6 : Shared} {i : Nat} {y : Str} {py : Pos} {v : V} {u : Value} {D : Ends} (hC : s3.heap.objs.size ≤ C) (I3 : Inv X pins σ H3 s3) (f3 : ∀ b ∈ fp, FpOk X pins H3 b)
    (hN : X.N.Nodup) (hi : X.N[i]? = some y) (hx : Loc X.env.scope y) (hf : X.fn y = true ∨ X.env.scope.names.lookup y = some .local)
    (I6 : Inv (X.comp scope C N' s3 H3 fp) [] (seen lv caps σ) H5 s6) (r : RelV v u) (q : D.nx (σ.set i (some v)) H5) :
    compPost (model X.prog X.w) X.A X.xe (some (assign (.Name y py) X.env)) (fun _ s' => SP X pins D .next s') u C (.ok .next) s6 := by
  have I := comp_back hC I3 f3 I6 (Heap.SameBut.refl C s6.heap)
  obtain ⟨m, hn, _⟩ := I6.loc
  have hn : s6.heap.Ns C m := hn
  have cL : C ≠ X.env.locals := fun z => Nat.lt_irrefl _ (Nat.lt_of_lt_of_le (z ▸ I3.lt) hC)
  have cc : ∀ x c, X.env.cells.lookup x = some c → c ≠ C := fun x c e z => by
    obtain ⟨v, o, e', _⟩ := I3.cell x c e
    exact Nat.lt_irrefl _ (Nat.lt_of_lt_of_le (z ▸ Heap.lt_size e') hC)
  show wpAny _ _ (assign (.Name y py) X.env u) _ _ _
  refine wpAny_assign_Name (store_ok2 I hN hi hx r (fun s7 I7 ⟨a, sb, ha⟩ => ?_) hf)
  have aC : C ≠ a := fun z => by
    rcases ha with e | e
    · exact cL (z.trans e)
    · exact cc _ _ e z.symm
  refine ⟨m, hn.sameBut sb aC, fun h' hs' => ?_⟩
  refine ⟨_, H5, I7.turned (it := C) (t' := s7.toks) (fun b o hb e => (hs'.2 b hb).trans e) I6.free cL (.inr (Nat.le_trans I3.sz hC)) cc (fun p hp z => ?_), q⟩
  have := (I3.pin p hp).1
  exact Nat.lt_irrefl _ (Nat.lt_of_lt_of_le (z ▸ Heap.lt_size this) hC)
end
section
variable {K : PySem.W.Frag} {g : TG} {tc : TT} {te : TE} {σ0 : St} {H1 : Hp} {Q : VK}
end
section
variable {X : Cx}
end
end L2
set_option Elab.async false
set_option linter.all false
set_option maxRecDepth 100000
set_option maxHeartbeats 2000000
namespace L2
open PySem PySem.Spec PyProof.Rows
theorem SqL.any {K : PySem.W.Frag} {H : Hp} {a : Addr} {xs : List V} (h : SqL [] H a xs) : SqL K H a xs := by
  rcases h with h | ⟨o, its, n, e, _⟩
  · exact .inl h
  · cases e
theorem SqT.any {K : PySem.W.Frag} {H : Hp} {a : Addr} {xs : List V} (h : SqT [] H a xs) : SqT K H a xs := by
  rcases h with h | ⟨o, its, n, e, _⟩
  · exact .inl h
  · cases e
theorem Sq.any {K : PySem.W.Frag} {H : Hp} {a : Addr} {xs : List V} (h : SqL [] H a xs ∨ SqT [] H a xs) : SqL K H a xs ∨ SqT K H a xs := h.elim (fun h => .inl h.any) fun h => .inr h.any
section
variable {X : Cx}
theorem ix0L : IxR X (rIxL []) := fun value slice pins s σ H x y v u Q I rx ry h => by
  obtain ⟨p, xs, i, w, e1, e2, hq, r, r'⟩ := h
  exact ix_list value slice pins s σ H x y v u Q I rx ry ⟨p, xs, i, w, e1, e2, hq.any, r, r'⟩
theorem ix0T : IxR X (rIxT []) := fun value slice pins s σ H x y v u Q I rx ry h => by
  obtain ⟨p, xs, i, w, e1, e2, hq, r, r'⟩ := h
  exact ix_tup value slice pins s σ H x y v u Q I rx ry ⟨p, xs, i, w, e1, e2, hq.any, r, r'⟩
theorem sl0L : SlR X (rSlL []) := fun pins s σ H x v vl vu lo hi sl Q I rx hs pl pu h => by
  obtain ⟨a, xs, e, hq, r⟩ := h
  exact sl_list pins s σ H x v vl vu lo hi sl Q I rx hs pl pu ⟨a, xs, e, hq.any, r⟩
theorem op0catT : OpR X (binaryOp .Add) (rCatT []) := fun pins s σ H x y v u Q I rx ry h => by
  obtain ⟨a, b, xs, ys, e1, e2, h1, h2, n, z, r0, r⟩ := h
  exact op_catT pins s σ H x y v u Q I rx ry ⟨a, b, xs, ys, e1, e2, h1.any, h2.any, n, z, r0, r⟩
theorem op0catS : OpR X (binaryOp .Add) (rCatS []) := fun pins s σ H x y v u Q I rx ry h => by
  obtain ⟨a, b, xs, ys, e1, e2, h1, h2, z, r⟩ := h
  exact op_catS pins s σ H x y v u Q I rx ry ⟨a, b, xs, ys, e1, e2, h1.any, h2.any, z, r⟩
theorem op0in : OpR X (compareOp .In) (rIn [] false) := fun pins s σ H x y v u Q I rx ry h => by
  obtain ⟨p, xs, e, hq, f, fs, r⟩ := h
  exact op_in_seq pins s σ H x y v u Q I rx ry ⟨p, xs, e, Sq.any hq, f, fs, r⟩
inductive rLen0 (xs : List V) (H : Hp) (Q : VK) : Prop
  | mk (p : Addr) (ys : List V) (e : xs = [.ref p]) (s : SqL [] H p ys ∨ SqT [] H p ys) (q : Q (.int ys.length) H) : rLen0 xs H Q
theorem call0len : CallR X (.builtin "len") rLen0 := fun pins s σ H xs us Q I r h => by
  obtain ⟨p, ys, e, hq, q⟩ := h
  exact call_len_seq pins s σ H xs us Q I r ⟨p, ys, e, Sq.any hq, q⟩
noncomputable def XN : XK := fun _ _ _ => False
theorem passes0 {P : Program} {w : World} : Passes (CX1 P w) X XN := fun pins σ H s e s' I h => by
  obtain ⟨ea, Cc, d, H', rfl, os, bare, un, hok, _, hE⟩ := h
  exact hE.elim
end
end L2
set_option Elab.async false
set_option linter.all false
set_option maxRecDepth 100000
set_option maxHeartbeats 2000000
namespace L2
open PySem PySem.Spec PyProof.Rows
section
variable {X : Cx} {pins : List (Addr × Obj)} {σ : St} {H : Hp} {s : Shared}
theorem comp_loopG {elt iter : Expr} {tg : Expr} {pos : Pos} {scope : Scope} {g : TG} {te : TE} {lv : Nat} {caps : List Nat} {N' : List Str} {fp : List Addr} {it D C : Addr} {tn : Nat → Heap → Prop} {J : It} {H3 : Hp} {s3 s4 : Shared} {Q : VK} {W : Nat → Nat → List V → Hp → Prop} {m0 : Nat}
    (hc : X.calm = true) (T : Turn X.prog X.w X.K tg J fp it tn) (hC : s3.heap.objs.size ≤ C) (I3 : Inv X pins σ H3 s3) (f3 : ∀ b ∈ fp, FpOk X pins H3 b) (hCf : ∀ b ∈ fp, b ≠ C) (I4 : Inv (X.comp scope C N' s3 H3 fp) [] (seen lv caps σ) H3 s4) (st4 : tn 0 s4.heap) (w0 : W 0 m0 [] H3)
    (turn : ∀ i m ys H, W i m ys H → H D = some (.lst ys) ∧ ys.length < sizeLine ∧ ((J.stop i H ∧ Q (.ref D) H) ∨ (J.go i H ∧ ∀ x H', J.yld i H x H' → g x (seen lv caps σ) H' fun σ2 H2 => te σ2 H2 fun v H3 => H3 D = some (.lst ys) ∧
      ∃ m', m' < m ∧ W (i + 1) m' (ys ++ [v]) (upd H3 D (.lst (ys ++ [v]))))))
    (hgk : GKeep g lv caps) (hg : PG (X.comp scope C N' s3 H3 fp) tg g) {xe : Value → Shared → Prop} {R : Result → Shared → Prop}
    (hstop : ∀ H5 s6, Inv (X.comp scope C N' s3 H3 fp) [] (seen lv caps σ) H5 s6 → Q (.ref D) H5 → R (.ok .next) s6)
    (herr : ∀ e s', xe e s' → notedBy (model X.prog X.w) X.A (compEnvC scope (clOf scope X.env) C X.env) (fun e s' => R (.error e) s') e s')
    (he : PE ((X.comp scope C N' s3 H3 fp).wish xe) elt te) :
    codeAny (model X.prog X.w) X.A (.compLoop (.ListComp elt [⟨tg, iter, [], 0⟩] scope pos) 0 (.ref it) (.ref D) (compEnvC scope (clOf scope X.env) C X.env)) R s4 := by
  have stat : ∀ {H' : Hp}, (∀ b ∈ fp, H' b = none) → ∀ b ∈ fp, FpOk (X.comp scope C N' s3 H3 fp) [] H' b := fun {H'} hn b hb =>
    ⟨hn b hb, hCf b hb, fun z => I4.ok.exfs b hb z, .inl hb, fun y c e => (I4.ok.exf b hb).2 y c e, fun p hp => absurd (show p ∈ ([] : List (Addr × Obj)) from hp) (by simp)⟩
  refine compLoop_any (fun n s' => ∃ i ys H', Inv (X.comp scope C N' s3 H3 fp) [] (seen lv caps σ) H' s' ∧ tn i s'.heap ∧ (∀ b ∈ fp, H' b = none) ∧ W i n ys H') ?_ m0 ⟨0, [], _, I4, st4, fun b hb => (f3 b hb).1, w0⟩
  rintro n s5 ⟨i, ys, H5, I5, st5, fr5, w5⟩
  obtain ⟨hD, hlen, hcase⟩ := turn i n ys H5 w5
  rcases hcase with ⟨stop, q⟩ | ⟨go, step⟩
  · refine thn (T.done (X.comp scope C N' s3 H3 fp) rfl rfl rfl hc i [] s5 _ H5 _ I5 (stat fr5) st5 stop) fun r s6 hr => ?_
    obtain ⟨hr, I6⟩ := hr
    subst hr
    exact hstop _ _ I6 q
  · refine thn (T.item (X.comp scope C N' s3 H3 fp) rfl rfl rfl hc i [] s5 _ H5 _ I5 (stat fr5) st5 go) fun r s6 hr => ?_
    obtain ⟨u, hr, h6⟩ := hr
    subst hr
    refine thn h6 fun _ s7 h7 => ?_
    obtain ⟨y, H7, I7, r7, y7, st7, fr7⟩ := h7
    have I7' := I7.pinned (stat fr7) (T.obj _ _ st7)
    refine wpAny_mono (hg _ s7 _ H7 y u _ I7' r7 (hgk σ y H7 _ (step y H7 y7))) (fun _ s8 h8 => ?_) (fun _ _ z => z.elim)
    obtain ⟨σ8, H8, I8, q8, ks⟩ := h8
    refine wpAny_mono (he _ s8 σ8 H8 _ (I8.wish _) q8) (fun v s9 h9 => ?_) (fun e s9 z => herr e s9 z)
    obtain ⟨z9, H9, I9, r9, hD9, m', hm', w9⟩ := h9
    have I9 := I9.unwish
    refine wpAny_mono (mt_append (X := X.comp scope C N' s3 H3 fp) _ s9 σ8 H9 (.ref D) [z9] (.ref D) [v] (fun _ H' => H' = upd H9 D (.lst (ys ++ [z9]))) I9 rfl (.cons r9 .nil) ⟨D, ys, z9, rfl, rfl, hD9, hlen, rfl⟩) (fun _ s10 h10 => ?_) (fun _ _ z => z.elim)
    obtain ⟨_, H10, I10, _, rfl⟩ := h10
    refine ⟨m', hm', i + 1, ys ++ [z9], _, I10.unpinned.weak ?_ ?_, T.keep _ _ _ st7 fun b hb o e => (I10.pin (b, o) (List.mem_append_right _ (List.mem_append_right _ (mem_pinsAt hb e)))).1, fun b hb => ?_, w9⟩
    · rw [I10.len]; exact I4.len
    · exact ks
    · obtain ⟨o, e, d⟩ := T.obj _ _ st7 b hb
      exact (I10.pin (b, o) (List.mem_append_right _ (List.mem_append_right _ (mem_pinsAt hb e)))).2.1
theorem ps_setC {elt iter : Expr} {tg : Expr} {pos spos py : Pos} {i : Nat} {y : Str} {scope : Scope} {wi : TI} {g : TG} {te : TE} {lv : Nat} {caps : List Nat} {N' : List Str} {xe : Addr → Shared → Hp → List Addr → Value → Shared → Prop} (herr : ∀ (pins : List (Addr × Obj)) (σ : St) (H3 : Hp) (s3 : Shared) (C : Addr) (fp : List Addr) (Q : Value → Shared → Prop) (acc e : Value) (s' : Shared), Inv X pins σ H3 s3 → (∀ b ∈ fp, FpOk X pins H3 b) → s3.heap.objs.size ≤ C → xe C s3 H3 fp e s' →
      notedBy (model X.prog X.w) X.A (compEnvC scope (clOf scope X.env) C X.env) (fun e s' => compPost (model X.prog X.w) X.A X.xe (some (assign (.Name y py) X.env)) Q acc C (.error e) s') e s')
    (hN : X.N.Nodup) (hi' : X.N[i]? = some y) (hx : Loc X.env.scope y) (hc : X.calm = true) (ok : CompOk X scope lv caps N') (hgk : GKeep g lv caps) (hi : PI X tg iter wi)
    (hg : ∀ C s H fp, PG (X.comp scope C N' s H fp) tg g) (he : ∀ C s H fp, PE ((X.comp scope C N' s H fp).wish (xe C s H fp)) elt te) (hs : ∀ y, foldedSetIterable iter X.env y = pure y := by intro _; rfl)
    (hsw : swapsWith (.ListComp elt [⟨tg, iter, [], 0⟩] scope pos) (some (.Name y py)) spos.line X.env = pure true := by rfl) (hf : X.fn y = true ∨ X.env.scope.names.lookup y = some .local := by first | exact .inl rfl | exact .inr rfl | assumption) :
    PS X (.Assign [.Name y py] (.ListComp elt [⟨tg, iter, [], 0⟩] scope pos) spos) (tAsg (tComp wi g te lv caps) (gName i)) := by
  intro pins s σ H E I h
  rw [exec_Assign_Name_used _ _ _ _ hsw]
  refine wpAny_bind (wpAny_standAt (wpAny_bind ?_))
  show wpAny _ _ (do let _ ← comprehension (.ListComp elt [⟨tg, iter, [], 0⟩] scope pos) scope X.env _ (newList []) false (eval iter X.env) (some (assign (.Name y py) X.env))) _ _ s
  refine wpAny_bind (thn (wpAny_comprehension_free (use := some (assign (.Name y py) X.env)) (Q := fun _ s' => SP X pins E .next s') rfl hs (closure_eq fun y hy hk => I.ok.has y.1 (ok.free y hy hk)) ok.kind ok.loc (thn (hi pins s σ H _ I h) fun v s1 h1 => thn h1 fun itv s2 h2 => ?_)) fun _ s' hq => wpAny_pure (wpAny_pure hq))
  obtain ⟨it, fp, tn, J, H2, e, I2, T, st2, f2, hW⟩ := h2
  subst e
  have fpl : ∀ b ∈ fp, b < s2.heap.objs.size := fun b hb => by obtain ⟨o, e, _⟩ := T.obj 0 _ st2 b hb; exact Heap.lt_size e
  refine wpAny_newObj_type ?_
  have I3 : Inv X pins σ (upd H2 s2.heap.objs.size (.lst [])) { s2 with heap := s2.heap.push { cls := .type "list", data := .seq ([] : List Value).toArray }, toks := s2.toks } := I2.lnew (its := []) .nil (Nat.zero_le _)
  obtain ⟨W, ⟨m0, w0⟩, turn⟩ := hW s2.heap.objs.size I2.fresh
  refine wpAny_newFunctionEnv ok.cell (by intro y hy; simp at hy) (fun h₁ hns₁ hsb₁ => ?_) ok.kind
  have hk3 : ∀ b o, (s2.heap.push { cls := .type "list", data := .seq ([] : List Value).toArray }).get? b = some o → h₁.get? b = some o := fun b o q =>
    (hsb₁.2 b (Nat.ne_of_lt (Heap.lt_size q))).trans (Heap.get?_push_of_some _ q)
  have f3 : ∀ b ∈ fp, FpOk X pins (upd H2 s2.heap.objs.size (.lst [])) b := fun b hb => by
    obtain ⟨n, r⟩ := f2 b hb
    exact ⟨by rw [upd_ne (Nat.ne_of_lt (fpl b hb))]; exact n, r⟩
  have fpl3 : ∀ b ∈ fp, b < (s2.heap.push { cls := .type "list", data := .seq ([] : List Value).toArray }).objs.size := fun b hb => by rw [Heap.size_push]; exact Nat.lt_succ_of_lt (fpl b hb)
  have I4 := inv_comp ok I3 f3 hns₁ hk3 fpl3 (s2.toks + 0)
  have st4 : tn 0 h₁ := T.keep _ _ _ st2 fun b hb o q => hk3 b o (Heap.get?_push_of_some _ q)
  have loop := comp_loopG (Q := fun v H' => E.nx (σ.set i (some v)) H') (D := s2.heap.objs.size) (elt := elt) (iter := iter) (pos := pos) (s4 := { s2 with heap := h₁, toks := s2.toks + 0 }) hc T (Nat.le_refl _) I3 f3 (fun b hb => Nat.ne_of_lt (fpl3 b hb)) I4 st4 w0 turn hgk (hg _ _ _ _) (R := compPost (model X.prog X.w) X.A X.xe (some (assign (.Name y py) X.env)) (fun _ s' => SP X pins E .next s') (.ref s2.heap.objs.size) _) (fun H5 s6 I6 q => comp_use (v := .ref s2.heap.objs.size) (Nat.le_refl _) I3 f3 hN hi' hx hf I6 rfl q) (fun e s' z => herr _ _ _ _ _ _ _ _ e s' I3 f3 (Nat.le_refl _) z) (he _ _ _ _)
  exact codeAny_compStart_list loop (T.self _ 0 _ _ _ st4 loop)
theorem call_sumL (hc : X.calm = true) : CallR X (.builtin "sum") (fun xs H Q => ∃ p, ∃ ns : List Int, xs = [.ref p] ∧ SqL X.K H p (ns.map V.int) ∧ Q (.int ns.sum) H) := by
  intro pins s σ H xs us Q I r h
  obtain ⟨p, ns, rfl, hq, q⟩ := h
  obtain ⟨u, rfl, rx⟩ := vals1 r
  cases rx
  obtain ⟨its, rv, pl, hz⟩ := I.list hq
  have hI := intsAre_of rv
  obtain ⟨xs, e⟩ := hI.allInts.items
  have hns : ns = xs.toList.map (·.1) := by rw [← hI.numsOf, ← nums_intItems, ← e]
  have hl := pl.isList
  rw [e] at hl
  refine sum_intListG (I.ok.hd hc) hl fun h' tk t' hk => ?_
  have e2 : preSum (numAt xs) xs.size = ns.sum := by
    rw [preSum_eq, List.take_of_length_le (by simp), hns]
  exact ⟨.int _, H, I.kept hk, ⟨t', rfl⟩, by rw [e2]; exact q⟩
inductive rList0 (xs : List V) (H : Hp) (Q : VK) : Prop
  | mk (p : Addr) (ys : List V) (e : xs = [.ref p]) (s : SqL [] H p ys ∨ SqT [] H p ys) (q : ∀ l, H l = none → Q (.ref l) (upd H l (.lst ys))) : rList0 xs H Q
theorem call0list : CallR X (.type "list") rList0 := fun pins s σ H xs us Q I r h => by
  obtain ⟨p, ys, e, hq, q⟩ := h
  exact call_list_of pins s σ H xs us Q I r ⟨p, ys, e, Sq.any hq, q⟩
end
end L2
set_option Elab.async false
set_option linter.all false
set_option maxRecDepth 100000
set_option maxHeartbeats 2000000
namespace L2
open PySem PySem.Spec PyProof.Rows
section
variable {prog : Program} {w : World} {A : Around} {E : Value → Shared → Prop} {s : Shared}
open AutoSeq1 (wpAny_loadPart') in
end
section
variable {X : Cx} {els : List Expr} {x1 : Nat} {tpos : Pos}
end
end L2
set_option linter.all false
set_option maxRecDepth 100000
namespace L2
open PySem PySem.Spec PyProof.Rows
section
variable {X : Cx}
end
end L2
set_option linter.all false
set_option maxRecDepth 100000
namespace L2
open PySem PySem.Spec PyProof.Rows
section
variable {prog : Program} {w : World} {A : Around} {E : Value → Shared → Prop} {s : Shared} {l : Addr} {xs : Array (Int × Tok)}
end
theorem compcap3 {N' N : List Str} {scope : Scope} {lv a b c : Nat} {x y z : Str} (h1 : N'[lv]? = some x) (h2 : N[a]? = some x) (h3 : scope.names.lookup x = some .free) (h4 : N'[lv + 1]? = some y) (h5 : N[b]? = some y) (h6 : scope.names.lookup y = some .free) (h7 : N'[lv + 2]? = some z) (h8 : N[c]? = some z) (h9 : scope.names.lookup z = some .free) :
    ∀ (p j : Nat), ([a, b, c] : List Nat)[p]? = some j → ∃ x, N'[lv + p]? = some x ∧ N[j]? = some x ∧ scope.names.lookup x = some .free := fun p j h => by
  match p with
  | 0 => have e : a = j := by simpa using h
         subst e; exact ⟨x, h1, h2, h3⟩
  | 1 => have e : b = j := by simpa using h
         subst e; exact ⟨y, h4, h5, h6⟩
  | 2 => have e : c = j := by simpa using h
         subst e; exact ⟨z, h7, h8, h9⟩
  | p + 3 => simp at h
section
variable {X : Cx}
end
end L2
set_option Elab.async false
set_option linter.all false
set_option maxRecDepth 100000
set_option maxHeartbeats 2000000
namespace L2
open PySem PySem.Spec PyProof.Rows
noncomputable def okNames (scope sc : Scope) : Bool := scope.names.all fun y => match y.2 with
  | .cell => false
  | .free => sc.names.lookup y.1 == some .cell || sc.names.lookup y.1 == some .free
  | .local => scope.names.lookup y.1 == some .local
  | _ => true
theorem CompOk.rf {X : Cx} {scope : Scope} {lv : Nat} {caps : List Nat} {N' : List Str} (kind : scope.kind = .function) (h : okNames scope X.env.scope = true) (len : N'.length = lv + caps.length)
    (cap : ∀ (p : Nat) (j : Nat), caps[p]? = some j → ∃ x, N'[lv + p]? = some x ∧ X.N[j]? = some x ∧ scope.names.lookup x = some .free) : CompOk X scope lv caps N' := by
  have h := List.all_eq_true.mp h
  refine ⟨kind, fun y hy e => ?_, fun y hy e => ?_, fun y hy e => ?_, len, cap⟩
  · have := h y hy; simp only [e] at this; cases this
  · have := h y hy; simp only [e, Bool.or_eq_true, beq_iff_eq] at this; exact this
  · have := h y hy; simp only [e, beq_iff_eq] at this; exact this
section
variable {X : Cx} {pins : List (Addr × Obj)} {σ : St} {H : Hp} {s : Shared}
end
end L2
set_option Elab.async false
set_option linter.all false
set_option maxRecDepth 100000
set_option maxHeartbeats 2000000
namespace L2
open PySem PySem.Spec PyProof.Rows
section
variable {X : Cx}
end
end L2
set_option linter.all false
set_option maxRecDepth 100000
set_option Elab.async false
set_option linter.all false
set_option maxRecDepth 100000
namespace L2
open PySem PySem.Spec PyProof.Rows
end L2
namespace L2
open PySem PySem.Spec PyProof.Rows
section
variable (P : Program) (w : World)
end
section
variable {P : Program} {w : World} {H H' : Hp} {h h' : Heap} {a : Addr} {o : HO}
end
section
variable {P : Program} {w : World} {H : Hp} {h h' : Heap} {x e : Addr} {o' : HO}
end
section
variable {fs fs' ex ex' : List Addr} {H H1 H2 : Hp} {h h1 h2 h' : Heap} {a x e : Addr} {o : HO}
end
end L2
namespace L2
open PySem PySem.Spec PyProof.Rows
section
variable {X : Cx} {pins : List (Addr × Obj)} {σ : List (Option V)} {H H' : Hp} {s : Shared} {h' : Heap}
end
end L2
namespace L2
open PySem PySem.Spec PyProof.Rows
section
variable {X : Cx}
variable {a b : Expr} {ta tb : TE} {pos : Pos}
variable {tA tB' : TT} {rest : List Expr}
end
end L2
namespace L2
open PySem PySem.Spec PyProof.Rows
section
variable {X : Cx} {pins : List (Addr × Obj)} {σ : St} {H : Hp} {s : Shared} {a : Addr} {xs ys : List V}
end
section
variable {X : Cx} {pins : List (Addr × Obj)} {σ : St} {H : Hp} {s : Shared} {E : Value → Shared → Prop}
end
section
variable {X : Cx} {st : Stmt} {rest : List Stmt} {t u : TS} {e : Expr} {te : TE} {pos : Pos}
end
section
variable {X : Cx} {pos : Pos}
end
section
variable {X : Cx} {pos : Pos}
end
end L2
namespace L2
open PySem PySem.Spec PyProof.Rows
section
variable {X : Cx} {tg : Expr}
end
end L2
namespace L2
open PySem PySem.Spec PyProof.Rows
section
variable {X : Cx} {a b c : Expr} {ta tb tc : TE} {pos : Pos}
end
section
variable {X : Cx} {a b c : Expr} {ta tb tc : TE} {pos : Pos}
end
end L2
namespace L2
open PySem PySem.Spec PyProof.Rows
section
variable {prog : Program} {w : World} {A : Around} {E : Value → Shared → Prop} {s : Shared} {K : PySem.W.Frag} {x dx C f : Addr} {mA : Str → Option Value} {name : Str} {v : Value}
end
section
variable {P : Program} {w : World} {H H' : Hp} {h h' : Heap} {a C dx : Addr} {fs fs' : List (Str × V)}
end
section
variable {X : Cx} {pins : List (Addr × Obj)} {σ : St} {H : Hp} {s : Shared} {a C dx : Addr} {fs : List (Str × V)} {f : Str} {v : V} {A : Around} {E : Value → Shared → Prop}
end
section
variable {X : Cx} {o e value : Expr} {f : Str} {pos pos' tpos : Pos} {ta tv : TE}
end
section
variable {X : Cx} {pins : List (Addr × Obj)} {σ : St} {H : Hp} {s : Shared} {A : Around} {E : Value → Shared → Prop} {Q : Value → Shared → Prop} {c : Value} {b : Bool}
end
end L2
namespace L2
open PySem PySem.Spec PyProof.Rows
section
variable {X : Cx} {e : Expr} {es : List Expr} {te : TE} {t : TA} {pos : Pos}
end
section
variable {X : Cx} {pins : List (Addr × Obj)} {σ : St} {H : Hp} {s s' : Shared}
end
section
variable {X : Cx} {CX : CXT} {k : Nat} {f C : Addr} {fd : FuncData} {ps : List Str} {sp : Sp} {dvs : List V} {ds : List Value} {E : XK} {x m : Str} {p pos apos : Pos} {e o : Expr} {es : List Expr} {ta : TE} {t : TA}
end
section
variable {X : Cx} {CX : CXT} {k : Nat} {f C : Addr} {fd : FuncData} {ps ks : List Str} {sp : Sp} {E : XK} {x m : Str} {p pos apos kpos : Pos} {e o : Expr} {es : List Expr} {kws : List Keyword} {te ta : TE} {t tk : TA} {nm : Option Str}
variable {g : List Value → List Value → List Value} {gV : List V → List V → List V}
end
end L2
namespace L2
open PySem PySem.Spec PyProof.Rows
section
variable {X : Cx} {x : Str} {p pos : Pos} {e : Expr} {es : List Expr} {t : TA} {id T : String} {r : List V → Hp → VK → Prop}
end
end L2
namespace L2
open PySem PySem.Spec PyProof.Rows
section
variable {κ : Type} [DecidableEq κ]
end
section
variable {P : Program} {w : World} {H : Hp} {h : Heap} {a : Addr}
end
section
variable {X : Cx} {pins : List (Addr × Obj)} {σ : St} {H : Hp} {s : Shared} {a : Addr} {y v : V} {u r : Value} {o : Option V} {A : Around} {E : Value → Shared → Prop}
end
section
variable {X : Cx} {pins : List (Addr × Obj)} {σ : St} {H : Hp} {s : Shared} {a : Addr} {kvs : List (Key × V)} {k : Key} {u : Value} {A : Around} {E : Value → Shared → Prop}
end
section
variable {X : Cx} {o i e value : Expr} {pos pos' tpos : Pos} {td ty tv : TE}
end
section
variable {X : Cx} {pos : Pos}
end
section
variable {X : Cx} {pins : List (Addr × Obj)} {σ : St} {H : Hp} {s : Shared} {a : Addr} {y d : V} {u r : Value} {o : Option V} {A : Around} {E : Value → Shared → Prop}
end
section
variable {X : Cx} {o e f : Expr} {apos cpos : Pos} {td ty tx : TE}
end
section
variable {X : Cx} {pins : List (Addr × Obj)} {σ : St} {H : Hp} {s : Shared} {a : Addr} {kvs : List (Key × V)} {A : Around} {E : Value → Shared → Prop}
end
section
variable {X : Cx} {pins : List (Addr × Obj)} {σ : St} {H : Hp} {s : Shared} {a : Addr} {y : V} {u : Value} {A : Around} {E : Value → Shared → Prop}
end
end L2
namespace Att
open PySem PySem.W PySem.Calls PyProof.Rows
section
variable {prog : Program} {w : World} {A : Around} {E : Value → Shared → Prop} {s : Shared} {K : Frag}
end
end Att
namespace L2
open PySem PySem.Spec PyProof.Rows
end L2
namespace L2
open PySem PySem.Spec PyProof.Rows
end L2
namespace L2
open PySem PySem.Spec PyProof.Rows
section
variable {P : Program} {w : World} {K : PySem.W.Frag} {mg : Str → Option Value} {base : Heap}
end
section
variable {X : Cx}
end
section
variable {κ : Type} [DecidableEq κ]
end
end L2
set_option Elab.async false
set_option linter.all false
set_option maxRecDepth 100000
set_option maxHeartbeats 2000000
namespace L2
open PySem PySem.Spec PyProof.Rows
section
variable {X : Cx}
end
end L2
set_option Elab.async false
set_option linter.all false
set_option maxRecDepth 100000
set_option maxHeartbeats 2000000
namespace L2
open PySem PySem.Spec PyProof.Rows Builtin Builtin.ObjectAttr
section
variable {prog : Program} {w : World} {A : Around} {E : Value → Shared → Prop} {h : Heap} {g : Array GenState} {d : Drawn} {t : Nat} {os : OsState}
variable {nm q : Str} {C N : Addr} {bs bm bmB : List Value} {hdct : Bool} {sn : List Str} {sub : List Value} {ab : Bool} {col : Option Bool} {dd : Option Addr} {k0 k1 k2 k3 k5 : Option Value} {B newId initId : String}
end
section
variable {M : Model} {A : Around} {E : Value → Shared → Prop} {s : Shared} {env : Env}
variable {nm q : Str} {C N : Addr} {bs bm : List Value} {hdct : Bool} {sn : List Str} {sub : List Value} {ab : Bool} {col : Option Bool} {dd : Option Addr} {k0 k1 k2 k3 k5 : Option Value} {newId : String}
end
section
variable {prog : Program} {w : World} {A : Around} {E : Value → Shared → Prop} {s : Shared} {env : Env}
variable {nm q : Str} {C N : Addr} {bs bm bmB : List Value} {hdct : Bool} {sn : List Str} {sub : List Value} {ab : Bool} {col : Option Bool} {dd : Option Addr} {k0 k1 k2 k3 k5 : Option Value} {B newId initId : String}
end
section
variable {prog : Program} {w : World} {A : Around} {E : Value → Shared → Prop} {s : Shared} {K : PySem.W.Frag} {ea C : Addr} {ox : Obj} {od : Option Obj} {name : Str}
end
section
variable {X : Cx} {pins : List (Addr × Obj)} {σ : St} {H : Hp} {s : Shared}
end
section
variable {X : Cx} {o value e : Expr} {f : Str} {pos pos' : Pos} {ta tv : TE}
end
section
variable {P : Program} {w : World} {K : PySem.W.Frag} {mg : Str → Option Value} {base : Heap} {N : List Str} {qual : Str} {scope : Scope} {f : Addr} {cd : Value} {A : Around} {outer : List Env} {s : Shared} {H : Hp} {E : XK}
end
end L2
set_option Elab.async false
set_option linter.all false
set_option maxRecDepth 100000
set_option maxHeartbeats 2000000
namespace L2
open PySem PySem.Spec PyProof.Rows
open PySem.AutoSeq1 (wpAny_loadPart')
section
variable {prog : Program} {w : World} {A : Around} {E : Value → Shared → Prop} {s : Shared} {a : Addr}
end
section
variable {prog : Program} {w : World} {K : Type} [DecidableEq K] {knd : KeyKind prog w K} {A : Around} {R : Result → Shared → Prop}
end
section
variable {prog : Program} {w : World} {A : Around} {E : Value → Shared → Prop} {s : Shared}
end
section
variable {M : Model} {A : Around} {E : Value → Shared → Prop} {s : Shared} {env : Env}
end
section
variable {X : Cx} {els : List Expr} {x1 : Nat} {tpos : Pos}
end
section
variable {K : PySem.W.Frag} {g : TG} {te : TE} {σ0 : St} {H1 : Hp} {Q : VK}
end
end L2
set_option Elab.async false
set_option linter.all false
set_option maxRecDepth 100000
set_option maxHeartbeats 2000000
namespace L2
open PySem PySem.Spec PyProof.Rows
end L2
set_option Elab.async false
set_option linter.all false
namespace L2
open PySem PySem.Spec PyProof.Rows
end L2
set_option Elab.async false
set_option linter.all false
set_option maxRecDepth 100000
set_option maxHeartbeats 2000000
namespace L2
open PySem PySem.Spec PyProof.Rows
section
variable {X : Cx} {tg : Expr}
end
end L2
set_option Elab.async false
set_option linter.all false
set_option maxRecDepth 100000
set_option maxHeartbeats 2000000
namespace L2
open PySem PySem.Spec PyProof.Rows
noncomputable def mostFrom (val : Nat → Int) : Nat → Nat → Option Int → Option Int
  | _, 0, c => c
  | i, k + 1, c => mostFrom val (i + 1) k (some (match c with | none => val i | some m => if val i > m then val i else m))
section
variable {prog : Program} {w : World} {A : Around} {R : Result → Shared → Prop} {I : Addr} {fp wr : List Addr} {n : Nat} {Pi : Nat → Value → Prop} {St : Nat → Heap → Prop} {S : Addr} {dv : Value}
theorem max_loop_d (W : Walks prog w A.in1 I fp wr n Pi St) (val : Nat → Int) (hval : ∀ i v, Pi i v → ∃ t, v = .int (val i) t) (hSf : S ∉ fp) : ∀ (k i : Nat) (s : Shared) (c : Option Int), n - i = k → i ≤ n → St i s.heap → BestAt s.heap S c →
    (∀ h' tk, (∀ b o, b ∉ wr → b ≠ S → s.heap.get? b = some o → h'.get? b = some o) → BestRet R dv (mostFrom val i k c) { s with heap := h', toks := tk }) →
    codeAny (model prog w) A (.builtin "max.loop" ⟨[.ref I, .none, .ref S], [(Str.ofString "default", dv)]⟩) R s := by
  have hSw : S ∉ wr := fun h => hSf (W.sub _ h)
  have hname : (toString "max" ++ toString ".loop" : String) = "max.loop" := by decide
  intro k
  induction k with
  | zero =>
    intro i s c hk hi st hb hR
    have e : i = n := by omega
    subst e
    obtain ⟨ep, hb⟩ := hb
    refine codeAny_builtin F.entry_max_loop ?_
    rw [Around.under_plainId F.plain_max_loop _]
    show wpAny _ A.in1 (seqItems? (.ref S) >>= _) _ _ s
    cases c with
    | none =>
      refine wpAny_bind (wpAny_seqItems hb rfl ?_)
      show wpAny _ A.in1 (tryCatch (pyNext (.ref I)) _ >>= _) _ _ s
      refine wpAny_bind (wpAny_tryCatch (W.done s _ _ st fun h' tk hk' => ?_))
      exact wpAny_bind (wpAny_rule (wpAny_pure (hR h' tk fun b o hw _ q => hk' b o hw q)))
    | some m =>
      obtain ⟨t, hb⟩ := hb
      refine wpAny_bind (wpAny_seqItems hb rfl ?_)
      show wpAny _ A.in1 (tryCatch (pyNext (.ref I)) _ >>= _) _ _ s
      refine wpAny_bind (wpAny_tryCatch (W.done s _ _ st fun h' tk hk' => ?_))
      have hb' := hk' S _ hSw hb
      show wpAny _ A.in1 (updateSeq S (fun _ => #[]) >>= _) _ _ _
      refine wpAny_bind (wpAny_updateSeq hb' rfl (wpAny_bind (wpAny_letGo ?_)))
      exact wpAny_pure (hR _ tk (fun b o hw hS q => (Heap.get?_update_other _ _ (Ne.symm hS)).trans (hk' b o hw q)) t)
  | succ k ih =>
    intro i s c hk hi st hb hR
    obtain ⟨ep, hb⟩ := hb
    have hlt : i < n := by omega
    refine codeAny_builtin F.entry_max_loop ?_
    rw [Around.under_plainId F.plain_max_loop _]
    show wpAny _ A.in1 (seqItems? (.ref S) >>= _) _ _ s
    cases c with
    | none =>
      refine wpAny_bind (wpAny_seqItems hb rfl ?_)
      show wpAny _ A.in1 (tryCatch (pyNext (.ref I)) _ >>= _) _ _ s
      refine wpAny_bind (wpAny_tryCatch (W.item i s _ _ hlt st fun v h' tk hP st' hk' => ?_))
      obtain ⟨t, rfl⟩ := hval i v hP
      have hb' := hk' S _ hSw hb
      show wpAny _ A.in1 (updateSeq S (fun _ => #[.int (val i) t, .int (val i) t]) >>= _) _ _ _
      refine wpAny_bind (wpAny_updateSeq hb' rfl ?_)
      rw [hname]
      refine wpAny_pure ⟨plainId_quiet F.plain_max_loop _, ih (i + 1) _ (some (val i)) (by omega) (by omega) (W.frame _ _ _ st' fun b hbf o q => ?_) ⟨_, t, Heap.get?_update_self _ hb' rfl⟩ fun h'' tk'' hk'' => ?_⟩
      · exact (Heap.get?_update_other _ _ (fun z : S = b => hSf (by rw [z]; exact hbf))).trans q
      · exact hR h'' tk'' fun b o hw hS q => hk'' b o hw hS ((Heap.get?_update_other _ _ (Ne.symm hS)).trans (hk' b o hw q))
    | some m =>
      obtain ⟨t0, hb⟩ := hb
      refine wpAny_bind (wpAny_seqItems hb rfl ?_)
      show wpAny _ A.in1 (tryCatch (pyNext (.ref I)) _ >>= _) _ _ s
      refine wpAny_bind (wpAny_tryCatch (W.item i s _ _ hlt st fun v h' tk hP st' hk' => ?_))
      obtain ⟨t, rfl⟩ := hval i v hP
      have hb' := hk' S _ hSw hb
      have cmp : CmpOf prog w A.in1 .Gt (fun j v => v = (if j = 0 then Value.int (val i) t else Value.int m t0)) (fun a b => decide ((if a = 0 then val i else m) > (if b = 0 then val i else m))) :=
        CmpOf.ints_gt (fun j => if j = 0 then val i else m) fun j v e => by
          by_cases hj : j = 0
          · rw [if_pos hj] at e ⊢; exact ⟨t, e⟩
          · rw [if_neg hj] at e ⊢; exact ⟨t0, e⟩
      show wpAny _ A.in1 (tryCatch (holding [.int (val i) t, .int (val i) t] (richCompare .Gt (.int (val i) t) (.int m t0) >>= _)) _ >>= _) _ _ _
      refine wpAny_bind (wpAny_tryCatch (wpAny_holding (wpAny_bind (cmp 0 1 _ _ _ _ _ rfl rfl (wpAny_bind (wpAny_holding (wpAny_truthy_bool (wpAny_bind (wpAny_letGo (wpAny_pure ?_))))))))))
      show wpAny _ _ (if decide (val i > m) = true then _ else _) _ _ _
      have last : ∀ h1 : Heap, (∀ b o, b ≠ S → h'.get? b = some o → h1.get? b = some o) → BestAt h1 S (some (if val i > m then val i else m)) →
          codeAny (model prog w) A (.builtin "max.loop" ⟨[.ref I, .none, .ref S], [(Str.ofString "default", dv)]⟩) R { s with heap := h1, toks := tk } := fun h1 k1 hb1 =>
        ih (i + 1) _ _ (by omega) (by omega) (W.frame _ _ _ st' fun b hbf o q => k1 b o (fun z => hSf (by rw [← z]; exact hbf)) q) hb1 fun h'' tk'' hk'' =>
          hR h'' tk'' fun b o hw hS q => hk'' b o hw hS (k1 b o hS (hk' b o hw q))
      by_cases hlt2 : val i > m
      · rw [decide_eq_true hlt2, if_pos rfl]
        refine wpAny_bind ?_
        refine wpAny_updateSeq hb' rfl (wpAny_bind (wpAny_letGo ?_))
        rw [hname]
        exact wpAny_pure ⟨plainId_quiet F.plain_max_loop _, last _ (fun b o hS q => (Heap.get?_update_other _ _ (Ne.symm hS)).trans q) ⟨_, t, by rw [if_pos hlt2]; exact Heap.get?_update_self _ hb' rfl⟩⟩
      · rw [decide_eq_false hlt2, if_neg Bool.false_ne_true]
        refine wpAny_bind (wpAny_letGo ?_)
        rw [hname]
        exact wpAny_pure ⟨plainId_quiet F.plain_max_loop _, last _ (fun b o _ q => q) ⟨ep, t0, by rw [if_neg hlt2]; exact hb'⟩⟩
end
theorem mostFrom_ok (val : Nat → Int) : ∀ (k i : Nat) (c : Option Int) (m : Int), mostFrom val i k c = some m → (c = some m ∨ ∃ j, i ≤ j ∧ j < i + k ∧ m = val j) ∧ (∀ x, c = some x → x ≤ m) ∧ ∀ j, i ≤ j → j < i + k → val j ≤ m := by
  intro k
  induction k with
  | zero => intro i c m h; exact ⟨.inl h, fun x hx => by rw [show mostFrom val i 0 c = c from rfl] at h; rw [h] at hx; cases hx; exact Int.le_refl _, fun j h1 h2 => by omega⟩
  | succ k ih =>
    intro i c m h
    obtain ⟨h1, h2, h3⟩ := ih (i + 1) _ m h
    have hx := h2 _ rfl
    cases c with
    | none =>
      refine ⟨?_, fun x hx' => (nomatch hx'), fun j hj1 hj2 => ?_⟩
      · rcases h1 with h1 | ⟨j, a, b, e⟩
        · exact .inr ⟨i, Nat.le_refl _, by omega, (Option.some.inj h1).symm⟩
        · exact .inr ⟨j, by omega, by omega, e⟩
      · by_cases e : j = i
        · subst e; exact hx
        · exact h3 j (by omega) (by omega)
    | some y =>
      dsimp only at h1 hx
      refine ⟨?_, fun x hx' => ?_, fun j hj1 hj2 => ?_⟩
      · rcases h1 with h1 | ⟨j, a, b, e⟩
        · have h1 := Option.some.inj h1
          by_cases hv : val i > y
          · rw [if_pos hv] at h1; exact .inr ⟨i, Nat.le_refl _, by omega, h1.symm⟩
          · rw [if_neg hv] at h1; exact .inl (by rw [h1])
        · exact .inr ⟨j, by omega, by omega, e⟩
      · cases hx'
        split at hx <;> omega
      · by_cases e : j = i
        · subst e; split at hx <;> omega
        · exact h3 j (by omega) (by omega)
theorem mostFrom_some (val : Nat → Int) : ∀ (k i : Nat) (x : Int), ∃ m, mostFrom val i k (some x) = some m
  | 0, _, x => ⟨x, rfl⟩
  | k + 1, i, x => mostFrom_some val k (i + 1) _
theorem args_max_d (a v : Value) : argsOk "max" ⟨[a], [(Str.ofString "default", v)]⟩ := by unfold argsOk; kernel_rfl
section
variable {X : Cx}
noncomputable def tMaxD (K : PySem.W.Frag) (te td : TE) : TE := fun σ H Q => te σ H fun x H1 => td σ H1 fun y H2 => ∃ p ns dv, x = .ref p ∧ y = .int dv ∧ SqL K H2 p (ns.map V.int) ∧ ∀ m : Int, (ns = [] → m = dv) → (ns ≠ [] → m ∈ ns ∧ ∀ a ∈ ns, a ≤ m) → Q (.int m) H2
theorem call_maxD {pins : List (Addr × Obj)} {σ : St} {H : Hp} {s : Shared} {Q : VK} {p : Addr} {ns : List Int} {dv : Int} {t : Tok} (hc : X.calm = true) (I : Inv X pins σ H s) (hq : SqL X.K H p (ns.map V.int))
    (q : ∀ m : Int, (ns = [] → m = dv) → (ns ≠ [] → m ∈ ns ∧ ∀ a ∈ ns, a ≤ m) → Q (.int m) H) : wpAny (model X.prog X.w) X.A (call (.builtin "max") [.ref p] [(Str.ofString "default", .int dv t)]) (EP X pins σ Q) X.xe s := by
  have hname : (toString "max" ++ toString ".loop" : String) = "max.loop" := by decide
  obtain ⟨its, rv, pl, hz⟩ := I.list hq
  have hl := pl.isList
  have hlt : p < s.heap.objs.size := by obtain ⟨_, e, _⟩ := id hl; exact Heap.lt_size e
  have hlen : its.toArray.size = ns.length := by rw [List.size_toArray, ← rv.length, List.length_map]
  have hval : ∀ (i : Nat) v, its.toArray[i]? = some v → ∃ t, v = Value.int ((ns[i]?).getD 0) t := fun i v hv => by
    have hv' : its[i]? = some v := by simpa using hv
    cases hb : ns[i]? with
    | none =>
      have : its[i]? = none := rv.none_of (by rw [List.getElem?_map, hb]; rfl)
      rw [this] at hv'; cases hv'
    | some b =>
      obtain ⟨u, hu, ru⟩ := rv.get (x := .int b) (i := i) (by rw [List.getElem?_map, hb]; rfl)
      rw [hv'] at hu; cases hu
      exact ru
  refine kmk_tree PySem.F.kind_max PySem.F.plain_max PySem.F.entry_max (args_max_d _ _) ?_
  show wpAny _ X.A.in1 (Builtin.Builtins.bindParams "max" ["key", "default"] 0 ⟨[], [(Str.ofString "default", .int dv t)]⟩ >>= _) _ _ s
  refine wpAny_bind (wpAny_of_eq (show Builtin.Builtins.bindParams "max" ["key", "default"] 0 ⟨[], [(Str.ofString "default", .int dv t)]⟩ = pure [none, some (.int dv t)] from rfl) ?_)
  refine wpAny_bind (wpAny_pure ?_)
  refine wpAny_bind (wpAny_pyIter_list hl ?_)
  refine wpAny_bind (wpAny_newObj_type ?_)
  rw [hname]
  have W := Walks.list (prog := X.prog) (w := X.w) (A := X.A.in1) (I.ok.hd hc) s.heap.objs.size p (Nat.ne_of_lt hlt) its.toArray
  have hS : (s.heap.push { cls := .type "list_iterator", data := .fields #[.ref p, .int 0 0] }).objs.size = s.heap.objs.size + 1 := by rw [Heap.size_push]
  refine wpAny_pure ⟨plainId_quiet PySem.F.plain_max_loop _, max_loop_d W (fun i => (ns[i]?).getD 0) hval ?_ its.toArray.size 0 _ none (by omega) (Nat.zero_le _) ?_ ⟨0, Heap.get?_push_size _ rfl⟩ fun h' tk hk => ?_⟩
  · rw [hS]
    simp only [List.mem_cons, List.not_mem_nil, or_false, not_or]
    exact ⟨Nat.succ_ne_self _, Nat.ne_of_gt (Nat.lt_succ_of_lt hlt)⟩
  · refine ⟨⟨_, Heap.get?_push_of_some _ (Heap.get?_push_size _ rfl), rfl, rfl⟩, (hl.push _).push _⟩
  · have keep : ∀ b o, s.heap.get? b = some o → h'.get? b = some o := fun b o e => by
      have hb := Heap.lt_size e
      refine hk b o ?_ ?_ (Heap.get?_push_of_some _ (Heap.get?_push_of_some _ e))
      · intro z
        simp only [List.mem_cons, List.not_mem_nil, or_false] at z
        exact Nat.ne_of_lt hb z
      · rw [hS]; exact Nat.ne_of_lt (Nat.lt_succ_of_lt hb)
    have fin : ∀ m : Int, (ns = [] → m = dv) → (ns ≠ [] → m ∈ ns ∧ ∀ a ∈ ns, a ≤ m) → ∀ t', EP X pins σ Q (.int m t') { s with heap := h', toks := tk } := fun m h1 h2 t' => ⟨.int m, H, I.kept keep, ⟨t', rfl⟩, q m h1 h2⟩
    cases hr : mostFrom (fun i => (ns[i]?).getD 0) 0 its.toArray.size none with
    | none =>
      have hn : ns = [] := by
        cases hcs : ns with
        | nil => rfl
        | cons x r =>
          rw [hlen, hcs] at hr
          obtain ⟨m, e⟩ := mostFrom_some (fun i => ((x :: r)[i]?).getD 0) r.length 1 (((x :: r)[0]?).getD 0)
          rw [show mostFrom (fun i => ((x :: r)[i]?).getD 0) 0 (x :: r).length none = mostFrom (fun i => ((x :: r)[i]?).getD 0) 1 r.length (some (((x :: r)[0]?).getD 0)) from rfl, e] at hr
          cases hr
      exact fin dv (fun _ => rfl) (fun h => absurd hn h) t
    | some m =>
      obtain ⟨h1, _, h3⟩ := mostFrom_ok _ _ _ _ _ hr
      rw [hlen] at h1 h3
      have hm : m ∈ ns := by
        rcases h1 with h1 | ⟨j, _, hj, e⟩
        · cases h1
        · have hj' : j < ns.length := by omega
          rw [e, List.getElem?_eq_getElem hj']
          exact List.getElem_mem hj'
      exact fun t' => fin m (fun e => by rw [e] at hm; cases hm) (fun _ => ⟨hm, fun a ha => by
        obtain ⟨j, hj, e⟩ := List.mem_iff_getElem.mp ha
        have := h3 j (Nat.zero_le _) (by omega)
        rw [List.getElem?_eq_getElem hj, e] at this
        exact this⟩) t'
theorem pe_maxD {e d : Expr} {te td : TE} {p pos kpos : Pos} (hg : Gl X "max") (hm : X.mg "max" = none) (he : PE X e te) (hd : PE X d td) (hc : X.calm = true := by rfl) (hs : starEach [e] X.env = [(false, eval e X.env)] := by rfl) :
    PE X (.Call (.Name "max" p) [e] [⟨some "default", d, kpos⟩] pos) (tMaxD X.K te td) := by
  intro pins s σ H Q I h
  refine wpAny_Call_Name_kw (ld_blt I hg hm PyProof.Rows.Boot.«max» ?_)
  refine callWith_kw (he := by rw [hs]; rfl) (hplain := by rw [hs]; rfl) ?_
  refine thn ((pa_cons he pa_nil (hs := hs)) pos pins s σ H (fun vs H1 => match vs with | [x] => td σ H1 fun y H2 => ∃ p ns dv, x = .ref p ∧ y = .int dv ∧ SqL X.K H2 p (ns.map V.int) ∧ ∀ m : Int, (ns = [] → m = dv) → (ns ≠ [] → m ∈ ns ∧ ∀ a ∈ ns, a ≤ m) → Q (.int m) H2 | _ => False) I h) fun us s1 h1 => ?_
  obtain ⟨vs, H1, I1, r, q⟩ := h1
  match vs, q with
  | [x], q =>
    obtain ⟨u, rfl, rx⟩ := vals1 r
    refine thn ((pk_cons hd pk_nil) pos pins s1 σ H1 (fun zs H2 => match zs with | [y] => ∃ p ns dv, x = .ref p ∧ y = .int dv ∧ SqL X.K H2 p (ns.map V.int) ∧ ∀ m : Int, (ns = [] → m = dv) → (ns ≠ [] → m ∈ ns ∧ ∀ a ∈ ns, a ≤ m) → Q (.int m) H2 | _ => False) I1 q) fun ws s2 h2 => ?_
    obtain ⟨zs, H2, I2, r2, q2⟩ := h2
    match zs, q2 with
    | [y], ⟨p, ns, dv, e1, e2, hq, q3⟩ =>
      subst e1; subst e2
      obtain ⟨v, rfl, t, rfl⟩ := vals1 r2
      cases rx
      exact call_maxD hc I2 hq q3
end
section
variable {X : Cx}
theorem call_any (hc : X.calm = true) : CallR X (.builtin "any") (fun xs H Q => ∃ p, ∃ bs : List Bool, xs = [.ref p] ∧ SqL X.K H p (bs.map V.bl) ∧ Q (.bl (bs.any id)) H) := by
  intro pins s σ H xs us Q I r h
  obtain ⟨p, bs, rfl, hq, q⟩ := h
  obtain ⟨u, rfl, rx⟩ := vals1 r
  cases rx
  obtain ⟨its, rv, pl, hz⟩ := I.list hq
  have hl := pl.isList
  have hlt : p < s.heap.objs.size := by obtain ⟨_, e, _⟩ := id hl; exact Heap.lt_size e
  have htr : TruthOf X.prog X.w X.A.in1 (fun i v => its.toArray[i]? = some v) (fun i => (bs[i]?).getD false) := by
    intro i v s' Q' E' hv hQ
    have hv' : its[i]? = some v := by simpa using hv
    cases hb : bs[i]? with
    | none =>
      have : its[i]? = none := rv.none_of (by rw [List.getElem?_map, hb]; rfl)
      rw [this] at hv'; cases hv'
    | some b =>
      obtain ⟨u, hu, ru⟩ := rv.get (x := .bl b) (i := i) (by rw [List.getElem?_map, hb]; rfl)
      rw [hv'] at hu; cases hu
      cases ru
      dsimp only at hQ
      rw [hb] at hQ
      exact wpAny_truthy_bool hQ
  refine call_any_walk (wpAny_pyIter_list hl ⟨_, _, _, _, _, _, _, rfl, Walks.list (A := X.A.in1) (I.ok.hd hc) _ p (Nat.ne_of_lt hlt) its.toArray, ⟨⟨_, Heap.get?_push_size _ rfl, rfl, rfl⟩, hl.push _⟩, htr, fun h' tk hk => ?_⟩)
  have keep : ∀ b o, s.heap.get? b = some o → h'.get? b = some o := fun b o e => hk b o (by simp; exact Nat.ne_of_lt (Heap.lt_size e)) (Heap.get?_push_of_some _ e)
  refine ⟨.bl (bs.any id), H, I.kept keep, ?_, q⟩
  have hlen : its.toArray.size = bs.length := by rw [List.size_toArray, ← rv.length, List.length_map]
  have ha : ((List.range its.toArray.size).any fun i => (bs[i]?).getD false) = bs.any id := by
    rw [hlen]
    apply Bool.eq_iff_iff.mpr
    simp only [List.any_eq_true, List.mem_range]
    constructor
    · rintro ⟨i, hi, e⟩
      rw [List.getElem?_eq_getElem hi] at e
      exact ⟨_, List.getElem_mem hi, e⟩
    · rintro ⟨b, hb, e⟩
      obtain ⟨i, hi, e'⟩ := List.mem_iff_getElem.mp hb
      refine ⟨i, hi, ?_⟩
      rw [List.getElem?_eq_getElem hi, e']
      exact e
  show Value.bool _ = Value.bool _
  rw [ha]
end
end L2
set_option Elab.async false
set_option linter.all false
set_option maxRecDepth 100000
set_option maxHeartbeats 2000000
namespace L2
open PySem PySem.Spec PyProof.Rows
section
variable {X : Cx}
noncomputable def eqK (k : Int) (w : Value) : Bool := match w with
  | .int i _ => i == k
  | _ => false
inductive rCountR (x : V) (vs : List V) (H : Hp) (Q : VK) : Prop
  | mk (l : Addr) (as : List Addr) (k : Int) (e0 : x = .ref l) (e1 : vs = [.int k]) (e : H l = some (.lst (as.map V.ref ++ [.int k]))) (h : ∀ a ∈ as, ∃ xs, H a = some (.lst xs)) (q : Q (.int 1) H) : rCountR x vs H Q
theorem vals_refsK {k : Int} : ∀ {as : List Addr} {us : List Value}, Vals (as.map V.ref ++ [.int k]) us → ∃ t, us = as.map Value.ref ++ [Value.int k t]
  | [], _, .cons r .nil => by obtain ⟨t, rfl⟩ := r; exact ⟨t, rfl⟩
  | a :: as, _, .cons r t => by
    cases r
    obtain ⟨t', rfl⟩ := vals_refsK t
    exact ⟨t', rfl⟩
theorem mt_countR (hu : X.A.units + 64 < cLine) : MtM X "list.count" rCountR := by
  intro pins s σ H x vs v us Q I rx rv h
  obtain ⟨l, as, k, rfl, rfl, hH, hs, q⟩ := h
  cases rx
  obtain ⟨u, rfl, ru⟩ := rv.one
  obtain ⟨tk, rfl⟩ := ru
  obtain ⟨z, its, n, r, hl, e⟩ := I.lstM hH
  obtain ⟨t', rfl⟩ := vals_refsK r
  refine call_meets F.slot_list_count ⟨_, e, rfl⟩ F.entry_list_count (F.args_list_count_2 _ _) (SeqAt.list_countAt l (as.map Value.ref ++ [Value.int k t']).toArray n none #[] (.int k tk) (eqK k)) ⟨e, fun w hw => ?_, ?_⟩
  · have hw : w ∈ as.map Value.ref ++ [Value.int k t'] := by simpa using hw
    rcases List.mem_append.mp hw with hw | hw
    · obtain ⟨a, ha, rfl⟩ := List.mem_map.mp hw
      obtain ⟨xs, ea⟩ := hs a ha
      obtain ⟨its2, _, pl, _⟩ := I.list (SqL.of ea)
      exact SeqAt.EqAt.list_int k tk pl.isList (Nat.lt_of_le_of_lt (show X.A.in1.units ≤ X.A.units + 1 by first | exact Nat.le_refl _ | exact Nat.le_succ _) (by omega))
    · rw [List.mem_singleton.mp hw]
      exact SeqAt.EqAt.int_int k t' k tk
  · refine ⟨.int 1, H, I.tok _, ⟨s.toks, ?_⟩, q⟩
    have : (as.map Value.ref ++ [Value.int k t']).countP (eqK k) = 1 := by
      rw [List.countP_append]
      have h0 : (as.map Value.ref).countP (eqK k) = 0 := List.countP_eq_zero.mpr fun w hw => by
        obtain ⟨a, _, rfl⟩ := List.mem_map.mp hw
        exact Bool.false_ne_true
      rw [h0]
      simp [eqK]
    rw [show (as.map Value.ref ++ [Value.int k t']).toArray.toList = as.map Value.ref ++ [Value.int k t'] from rfl, this]
    rfl
variable {o e : Expr} {es : List Expr} {to : TE} {t : TA} {name : Str} {apos cpos : Pos} {T id : String} {r : V → List V → Hp → VK → Prop}
theorem pe_bmK (K : PySem.W.Frag) (pa : PlainAttrs T) (slot : Slot T name id) (hty : typeOf (.builtin id) = pure (.type "method_descriptor")) (hm : MtR X id r) (ho : PE X o to) (ha : PA X (e :: es) t)
    (hbase : attributeBase o name X.env (eval o X.env) = eval o X.env := by rfl)
    (hfew : ((backTo cpos (starEach (e :: es) X.env)).all (fun x => !x.1) && (backToKw cpos (keywordEach [] X.env)).all (fun x => x.1.isSome)
      && decide ((e :: es).length + ([] : List Keyword).length + (if ([] : List Keyword).isEmpty then 0 else 1) < 30)) = true := by rfl)
    (hline : (apos.endLine == cpos.line) = true := by rfl) (hs : starEach (e :: es) X.env = (false, eval e X.env) :: starEach es X.env := by rfl) (hplain : (backTo cpos (starEach es X.env)).any (·.1) = false := by rfl) (hK : X.K = K := by rfl) :
    PE X (.Call (.Attribute o name apos) (e :: es) [] cpos) (tBM K T r to t) := hK ▸ pe_bm pa slot hty hm ho ha hbase hfew hline hs hplain
theorem call_isiK (K : PySem.W.Frag) (h : X.K = K := by rfl) : CallR X (.builtin "isinstance") (rIsi K) := h ▸ call_isi
end
end L2
namespace RF
theorem gcd_step (a b : Int) : Int.gcd a b = Int.gcd b (a % b) := by
  have e : a = a % b + (a / b) * b := by rw [Int.mul_comm]; exact (Int.emod_add_mul_ediv a b).symm
  rw [Int.gcd_comm a b]
  conv => lhs; rw [e]
  rw [Int.gcd_add_mul_right_right]
noncomputable abbrev Cop (a b : Int) : Prop := Int.gcd a b = 1
theorem Cop.symm {a b : Int} (h : Cop a b) : Cop b a := by unfold Cop; rw [Int.gcd_comm]; exact h
theorem cop_one (a : Int) : Cop 1 a := Int.gcd_one_left a
theorem cop_mul {a b c : Int} : Cop (a * b) c ↔ Cop a c ∧ Cop b c := by
  unfold Cop
  constructor
  · intro h
    constructor
    · have : a.gcd c ∣ (a * b).gcd c := Int.gcd_dvd_gcd_mul_right_left a c b
      rw [h] at this
      exact Nat.dvd_one.mp this
    · have : b.gcd c ∣ (a * b).gcd c := Int.gcd_dvd_gcd_mul_left_left b c a
      rw [h] at this
      exact Nat.dvd_one.mp this
  · intro ⟨h1, h2⟩
    have h1' : Nat.Coprime a.natAbs c.natAbs := h1
    have h2' : Nat.Coprime b.natAbs c.natAbs := h2
    have := Nat.Coprime.mul_left h1' h2'
    show Nat.gcd (a * b).natAbs c.natAbs = 1
    rw [Int.natAbs_mul]; exact this
noncomputable def prod : List Int → Int
  | [] => 1
  | d :: r => d * prod r
theorem prod_append (a b : List Int) : prod (a ++ b) = prod a * prod b := by
  induction a with
  | nil => simp [prod]
  | cons x r ih => simp only [List.cons_append, prod, ih, Int.mul_assoc]
theorem cop_prod {c : Int} : ∀ {l : List Int}, Cop (prod l) c ↔ ∀ d ∈ l, Cop d c
  | [] => by simp only [prod, List.not_mem_nil, false_imp_iff, implies_true, iff_true]; exact cop_one c
  | x :: r => by rw [prod, cop_mul, cop_prod (l := r)]; simp
structure GoodBase (kept spare : List Int) : Prop where
  k1 : 1 ≤ kept.length
  k6 : kept.length ≤ 6
  s4 : spare.length ≤ 4
  rng : ∀ d ∈ kept ++ spare, 2 ≤ d ∧ d ≤ 1000000
  cop : (kept ++ spare).Pairwise Cop
  lt : ∀ k ∈ kept, ∀ s ∈ spare, k < s
theorem not_cop_self {d : Int} (h : 2 ≤ d) : ¬ Cop d d := by
  unfold Cop
  rw [Int.gcd_self]
  omega
theorem rise_of {l : List Int} (h2 : ∀ d ∈ l, 2 ≤ d) (hc : l.Pairwise Cop) (hs : l.Pairwise (· ≤ ·)) : l.Pairwise (· < ·) := by
  have := hc.and hs
  refine this.imp_of_mem ?_
  intro a b ha hb ⟨h1, h2'⟩
  have : a ≠ b := by
    rintro rfl
    exact not_cop_self (h2 a ha) h1
  omega
theorem good_cut {l : List Int} {n at' : Nat} {rev : Bool} (h2 : ∀ d ∈ l, 2 ≤ d ∧ d ≤ 1000000) (hc : l.Pairwise Cop) (hs : l.Pairwise (· < ·)) (hn : 1 ≤ n) (hn6 : n ≤ 6) (hl : n ≤ l.length) (hl4 : l.length ≤ n + 4) :
    GoodBase ((l.take n).drop at' ++ (l.take n).take at') (if rev then (l.drop n).reverse else l.drop n) := by
  have p1 : ((l.take n).drop at' ++ (l.take n).take at').Perm (l.take n) := by
    have := List.perm_append_comm (l₁ := (l.take n).drop at') (l₂ := (l.take n).take at')
    rw [List.take_append_drop] at this
    exact this
  have p2 : (if rev then (l.drop n).reverse else l.drop n).Perm (l.drop n) := by
    cases rev
    · exact List.Perm.refl _
    · exact List.reverse_perm _
  have p : ((l.take n).drop at' ++ (l.take n).take at' ++ (if rev then (l.drop n).reverse else l.drop n)).Perm l := by
    have := p1.append p2
    rw [List.take_append_drop] at this
    exact this
  have l1 := p1.length_eq
  have l2 := p2.length_eq
  rw [List.length_take] at l1
  rw [List.length_drop] at l2
  refine ⟨by omega, by omega, by omega, fun d hd => h2 d (p.mem_iff.mp hd), ?_, fun k hk s hs' => ?_⟩
  · exact (p.pairwise_iff (fun h => Cop.symm h)).mpr hc
  · have hk' := p1.mem_iff.mp hk
    have hs'' := p2.mem_iff.mp hs'
    have hp : (l.take n ++ l.drop n).Pairwise (· < ·) := by rw [List.take_append_drop]; exact hs
    exact (List.pairwise_append.mp hp).2.2 k hk' s hs''
noncomputable def rawSome (n : Int) : List Int := [[2, 4, 8, 64].getD (n % 4).toNat 0, [3, 9, 27].getD (n / 4 % 3).toNat 0, [5, 25, 625].getD (n / 12 % 3).toNat 0] ++ [7, 11, 13, 17, 19, 23, 29, 101, 997, 9973, 999983]
theorem raw_ok (n : Int) : (∀ d ∈ rawSome n, 2 ≤ d ∧ d ≤ 1000000) ∧ (rawSome n).Pairwise Cop ∧ (rawSome n).length = 14 := by
  have all : ∀ i j k : Nat, i < 4 → j < 3 → k < 3 → (∀ d ∈ [[2, 4, 8, 64].getD i (0 : Int), [3, 9, 27].getD j 0, [5, 25, 625].getD k 0] ++ [7, 11, 13, 17, 19, 23, 29, 101, 997, 9973, 999983], 2 ≤ d ∧ d ≤ 1000000) ∧
      ([[2, 4, 8, 64].getD i (0 : Int), [3, 9, 27].getD j 0, [5, 25, 625].getD k 0] ++ [7, 11, 13, 17, 19, 23, 29, 101, 997, 9973, 999983]).Pairwise Cop := by
    intro i j k hi hj hk
    have : ∀ i ∈ List.range 4, ∀ j ∈ List.range 3, ∀ k ∈ List.range 3, (∀ d ∈ [[2, 4, 8, 64].getD i (0 : Int), [3, 9, 27].getD j 0, [5, 25, 625].getD k 0] ++ [7, 11, 13, 17, 19, 23, 29, 101, 997, 9973, 999983], 2 ≤ d ∧ d ≤ 1000000) ∧
      ([[2, 4, 8, 64].getD i (0 : Int), [3, 9, 27].getD j 0, [5, 25, 625].getD k 0] ++ [7, 11, 13, 17, 19, 23, 29, 101, 997, 9973, 999983]).Pairwise Cop := by decide +kernel
    exact this i (List.mem_range.mpr hi) j (List.mem_range.mpr hj) k (List.mem_range.mpr hk)
  have h1 : (n % 4).toNat < 4 := by omega
  have h2 : (n / 4 % 3).toNat < 3 := by omega
  have h3 : (n / 12 % 3).toNat < 3 := by omega
  obtain ⟨a, b⟩ := all _ _ _ h1 h2 h3
  exact ⟨a, b, rfl⟩
theorem sorted_ok {n : Int} {l : List Int} (hp : l.Perm (rawSome n)) (hs : l.Pairwise (· ≤ ·)) : (∀ d ∈ l, 2 ≤ d ∧ d ≤ 1000000) ∧ l.Pairwise Cop ∧ l.Pairwise (· < ·) ∧ l.length = 14 := by
  obtain ⟨a, b, c⟩ := raw_ok n
  have a' : ∀ d ∈ l, 2 ≤ d ∧ d ≤ 1000000 := fun d hd => a d (hp.mem_iff.mp hd)
  have b' : l.Pairwise Cop := (hp.pairwise_iff (fun h => Cop.symm h)).mpr b
  exact ⟨a', b', rise_of (fun d hd => (a' d hd).1) b' hs, by rw [hp.length_eq, c]⟩
end RF
namespace RF
theorem emod_eq_iff_dvd {x y d : Int} : x % d = y % d ↔ d ∣ x - y := Int.emod_eq_emod_iff_emod_sub_eq_zero.trans ⟨Int.dvd_of_emod_eq_zero, Int.emod_eq_zero_of_dvd⟩
theorem dvd_mul_of_cop {a b x : Int} (h : Cop a b) (ha : a ∣ x) (hb : b ∣ x) : a * b ∣ x := by
  obtain ⟨k, rfl⟩ := ha
  have : b ∣ k := by
    have h' : Int.gcd b a = 1 := h.symm
    exact Int.natAbs_dvd_natAbs.mp (Nat.Coprime.dvd_of_dvd_mul_left (show Nat.Coprime b.natAbs a.natAbs from h') (by rw [← Int.natAbs_mul]; exact Int.natAbs_dvd_natAbs.mpr hb))
  exact Int.mul_dvd_mul_left a this
theorem prod_dvd {x : Int} : ∀ {l : List Int}, l.Pairwise Cop → (∀ d ∈ l, d ∣ x) → prod l ∣ x
  | [], _, _ => Int.one_dvd x
  | d :: r, hc, h => by
    rw [List.pairwise_cons] at hc
    have h1 : d ∣ x := h d List.mem_cons_self
    have h2 : prod r ∣ x := prod_dvd hc.2 fun e he => h e (List.mem_cons_of_mem _ he)
    exact dvd_mul_of_cop (Cop.symm (cop_prod.mpr fun e he => (hc.1 e he).symm)) h1 h2
theorem same_of_rests {l : List Int} {x y lo : Int} (hc : l.Pairwise Cop) (h : ∀ d ∈ l, x % d = y % d) (hx : lo ≤ x) (hx' : x < lo + prod l) (hy : lo ≤ y) (hy' : y < lo + prod l) : x = y := by
  have hd : prod l ∣ x - y := prod_dvd hc fun d hd => emod_eq_iff_dvd.mp (h d hd)
  obtain ⟨k, hk⟩ := hd
  have hP : 0 < prod l := by omega
  have : k = 0 := by
    rcases Int.lt_trichotomy k 0 with h1 | h1 | h1
    · have : prod l * k ≤ prod l * (-1) := Int.mul_le_mul_of_nonneg_left (by omega) (by omega)
      omega
    · exact h1
    · have : prod l * 1 ≤ prod l * k := Int.mul_le_mul_of_nonneg_left (by omega) (by omega)
      omega
  subst this
  omega
theorem prod_pos : ∀ {l : List Int}, (∀ d ∈ l, 2 ≤ d) → 0 < prod l
  | [], _ => by decide
  | d :: r, h => by
    have h1 := h d List.mem_cons_self
    have h2 := prod_pos fun e he => h e (List.mem_cons_of_mem _ he)
    exact Int.mul_pos (by omega) h2
theorem dvd_prod {d : Int} : ∀ {l : List Int}, d ∈ l → d ∣ prod l
  | x :: r, h => by
    rcases List.mem_cons.mp h with rfl | h
    · exact Int.dvd_mul_right _ _
    · exact Int.dvd_trans (dvd_prod h) (Int.dvd_mul_left _ _)
structure IsInv (n d v : Int) : Prop where
  lo : 1 ≤ v
  hi : v < d
  one : (n * v) % d = 1
theorem left_ne {n d : Int} (hd : 2 ≤ d) (h : Cop n d) : n % d ≠ 0 := fun e => by
  have : d ∣ n := Int.dvd_of_emod_eq_zero e
  obtain ⟨k, rfl⟩ := this
  unfold Cop at h
  have := Int.gcd_mul_left d k 1
  rw [Int.mul_one, Int.gcd_one_right, Nat.mul_one] at this
  rw [this] at h
  omega
theorem inv_one {n d : Int} (hd : 2 ≤ d) (h : n % d = 1) : IsInv n d 1 := ⟨by omega, by omega, by rw [Int.mul_one]; exact h⟩
theorem inv_up {n d v : Int} (hd : 2 ≤ d) (hl : 2 ≤ n % d) (h : IsInv d (n % d) v) : IsInv n d ((d * (n % d - v) + 1) / (n % d)) := by
  obtain ⟨h1, h2, h3⟩ := h
  have hlt : n % d < d := Int.emod_lt_of_pos n (by omega)
  generalize hL : n % d = L at *
  have hdv : L ∣ d * (L - v) + 1 := by
    have e : d * (L - v) + 1 = L * d - (d * v - 1) := by rw [Int.mul_sub, Int.mul_comm d L]; omega
    rw [e]
    refine Int.dvd_sub (Int.dvd_mul_right L d) ?_
    exact emod_eq_iff_dvd.mp (by rw [h3, Int.emod_eq_of_lt (by omega) (by omega)])
  obtain ⟨k, hk⟩ := hdv
  rw [hk, Int.mul_ediv_cancel_left _ (by omega)]
  have hpos : 0 < L * k := by
    rw [← hk]
    have : 0 < d * (L - v) := Int.mul_pos (by omega) (by omega)
    omega
  have hk1 : 1 ≤ k := by
    rcases Int.lt_or_le k 1 with h | h
    · have : L * k ≤ L * 0 := Int.mul_le_mul_of_nonneg_left (by omega) (by omega)
      rw [Int.mul_zero] at this
      omega
    · exact h
  refine ⟨hk1, ?_, ?_⟩
  · rcases Int.lt_or_le k d with h | h
    · exact h
    · have a : L * d ≤ L * k := Int.mul_le_mul_of_nonneg_left h (by omega)
      have b : d * (L - v) ≤ d * (L - 1) := Int.mul_le_mul_of_nonneg_left (by omega) (by omega)
      have c : d * (L - 1) = L * d - d := by rw [Int.mul_sub, Int.mul_comm d L, Int.mul_one]
      omega
  · have e : n * k % d = (L * k) % d := by rw [← hL, Int.mul_emod n k, Int.mul_emod (n % d) k, Int.emod_emod_of_dvd n (Int.dvd_refl d)]
    rw [e, ← hk, Int.add_comm, Int.add_mul_emod_self_left, Int.emod_eq_of_lt (by omega) (by omega)]
theorem cop_left {n d : Int} (h : Cop n d) : Cop d (n % d) := by unfold Cop; rw [← gcd_step]; exact h
theorem size_down {d L : Int} {j : Nat} (h0 : 2 ≤ L) (hlt : L < d) (h : d * L < 2 ^ (j + 1)) : L * (d % L) < 2 ^ j := by
  have hr0 : 0 ≤ d % L := Int.emod_nonneg d (by omega)
  have hr1 : d % L < L := Int.emod_lt_of_pos d (by omega)
  have hr2 : 2 * (d % L) < d := by
    have e := Int.emod_add_mul_ediv d L
    have hq : 1 ≤ d / L := by
      rcases Int.lt_or_le (d / L) 1 with h | h
      · have : L * (d / L) ≤ L * 0 := Int.mul_le_mul_of_nonneg_left (by omega) (by omega)
        rw [Int.mul_zero] at this
        omega
      · exact h
    have : L * 1 ≤ L * (d / L) := Int.mul_le_mul_of_nonneg_left hq (by omega)
    omega
  have a : L * (2 * (d % L)) < L * d := Int.mul_lt_mul_of_pos_left hr2 (by omega)
  have b : L * (2 * (d % L)) = 2 * (L * (d % L)) := by rw [Int.mul_left_comm]
  have c : L * d = d * L := Int.mul_comm L d
  have e2 : (2 : Int) ^ (j + 1) = 2 * 2 ^ j := by rw [Int.pow_succ, Int.mul_comm]
  omega
structure Upto (kept fig : List Int) (i : Nat) (number step : Int) : Prop where
  st : step = prod (kept.take i)
  lo : 0 ≤ number
  hi : number < step
  rs : ∀ j, j < i → ∀ d r, kept[j]? = some d → fig[j]? = some r → number % d = r
theorem upto_zero (kept fig : List Int) : Upto kept fig 0 0 1 := ⟨rfl, by omega, by omega, fun j h => absurd h (Nat.not_lt_zero j)⟩
theorem take_succ_prod {l : List Int} {i : Nat} {d : Int} (h : l[i]? = some d) : prod (l.take (i + 1)) = prod (l.take i) * d := by
  rw [List.take_add_one, h, prod_append]
  show prod (l.take i) * (d * 1) = _
  rw [Int.mul_one]
theorem upto_step {kept fig : List Int} {i : Nat} {number step d r v : Int} (h2 : ∀ x ∈ kept, 2 ≤ x) (u : Upto kept fig i number step) (hd : kept[i]? = some d) (hr : fig[i]? = some r) (hr0 : 0 ≤ r) (hr1 : r < d) (hv : IsInv step d v) :
    Upto kept fig (i + 1) (number + ((r - number) * v % d) * step) (step * d) := by
  obtain ⟨hst, hlo, hhi, hrs⟩ := u
  have hd2 : 2 ≤ d := h2 d (List.mem_of_getElem? hd)
  have s0 : 0 ≤ (r - number) * v % d := Int.emod_nonneg _ (by omega)
  have s1 : (r - number) * v % d < d := Int.emod_lt_of_pos _ (by omega)
  have hstep : 0 < step := by omega
  refine ⟨by rw [take_succ_prod hd, hst], ?_, ?_, fun j hj d' r' hd' hr' => ?_⟩
  · have := Int.mul_nonneg s0 (Int.le_of_lt hstep)
    omega
  · generalize (r - number) * v % d = k at *
    have a : k * step ≤ (d - 1) * step := Int.mul_le_mul_of_nonneg_right (by omega) (by omega)
    have b : (d - 1) * step = step * d - step := by rw [Int.sub_mul, Int.mul_comm d step, Int.one_mul]
    omega
  · rcases Nat.lt_or_ge j i with h | h
    · have hdv : d' ∣ step := by
        rw [hst]
        exact dvd_prod (List.mem_of_getElem? (by rw [List.getElem?_take_of_lt h]; exact hd'))
      obtain ⟨q, rfl⟩ := hdv
      rw [show number + ((r - number) * v % d) * (d' * q) = number + d' * ((r - number) * v % d * q) by rw [Int.mul_left_comm]; , Int.add_mul_emod_self_left]
      exact hrs j h d' r' hd' hr'
    · have e : j = i := by omega
      subst e
      rw [hd] at hd'; cases hd'
      rw [hr] at hr'; cases hr'
      have e1 : ((r - number) * v % d * step) % d = (r - number) % d := by
        have h3 := hv.one
        rw [Int.mul_comm step v] at h3
        rw [Int.mul_emod, Int.emod_emod_of_dvd _ (Int.dvd_refl d), ← Int.mul_emod, Int.mul_assoc, Int.mul_emod, h3, Int.mul_one, Int.emod_emod_of_dvd _ (Int.dvd_refl d)]
      rw [Int.add_emod, e1, ← Int.add_emod, show number + (r - number) = r by omega, Int.emod_eq_of_lt hr0 hr1]
theorem step_cop {kept : List Int} {i : Nat} {d : Int} (hc : kept.Pairwise Cop) (hd : kept[i]? = some d) : Cop (prod (kept.take i)) d := by
  refine cop_prod.mpr fun e he => ?_
  have hlt := (List.getElem?_eq_some_iff.mp hd).1
  have := List.pairwise_append.mp (show (kept.take i ++ kept.drop i).Pairwise Cop by rw [List.take_append_drop]; exact hc)
  refine this.2.2 e he d ?_
  have e0 : kept.drop i = d :: kept.drop (i + 1) := by
    rw [List.drop_eq_getElem_cons hlt, (List.getElem?_eq_some_iff.mp hd).2]
  rw [e0]; exact List.mem_cons_self
noncomputable def lowest (kept : List Int) : Int := -((prod kept - 1) / 2)
noncomputable def highest (kept : List Int) : Int := prod kept / 2
theorem low_high (kept : List Int) : highest kept = lowest kept + prod kept - 1 := by
  unfold highest lowest; omega
noncomputable def rests (all : List Int) (x : Int) : List Int := all.map fun d => x % d
end RF
set_option linter.all false
namespace RF
theorem prod_erase : ∀ {l : List Int} {j : Nat} {d : Int}, l[j]? = some d → prod l = d * prod (l.eraseIdx j)
  | x :: r, 0, d, h => by
    simp only [List.getElem?_cons_zero, Option.some.injEq] at h
    subst h; rfl
  | x :: r, j + 1, d, h => by
    have ih := prod_erase (l := r) (j := j) (d := d) (by simpa using h)
    show x * prod r = d * (x * prod (r.eraseIdx j))
    rw [ih, Int.mul_left_comm]
theorem le_prod {d : Int} : ∀ {l : List Int}, (∀ e ∈ l, 2 ≤ e) → d ∈ l → d ≤ prod l
  | x :: r, h2, h => by
    have hx := h2 x List.mem_cons_self
    have hr := prod_pos fun e he => h2 e (List.mem_cons_of_mem _ he)
    show d ≤ x * prod r
    rcases List.mem_cons.mp h with rfl | h
    · have := Int.mul_le_mul_of_nonneg_left (show 1 ≤ prod r by omega) (show 0 ≤ d by omega)
      omega
    · have ih := le_prod (fun e he => h2 e (List.mem_cons_of_mem _ he)) h
      have := Int.mul_le_mul_of_nonneg_right (show 1 ≤ x by omega) (show 0 ≤ prod r by omega)
      omega
theorem span_left {kept spare : List Int} (g : GoodBase kept spare) (hs : spare ≠ []) {j : Nat} (hj : j < (kept ++ spare).length) : prod kept ≤ prod ((kept ++ spare).eraseIdx j) := by
  have h2 : ∀ d ∈ kept ++ spare, 2 ≤ d := fun d hd => (g.rng d hd).1
  have hk2 : ∀ d ∈ kept, 2 ≤ d := fun d hd => h2 d (List.mem_append_left _ hd)
  have hs2 : ∀ d ∈ spare, 2 ≤ d := fun d hd => h2 d (List.mem_append_right _ hd)
  rcases Nat.lt_or_ge j kept.length with h | h
  · rw [List.eraseIdx_append_of_lt_length h, prod_append]
    have hd : kept[j]? = some kept[j] := List.getElem?_eq_getElem h
    rw [prod_erase hd, Int.mul_comm]
    obtain ⟨s, r, rfl⟩ := List.exists_cons_of_ne_nil hs
    have hlt := g.lt kept[j] (List.getElem_mem h) s List.mem_cons_self
    have hle : s ≤ prod (s :: r) := le_prod hs2 List.mem_cons_self
    have hp : 0 < prod (kept.eraseIdx j) := prod_pos fun e he => hk2 e (List.mem_of_mem_eraseIdx he)
    exact Int.mul_le_mul_of_nonneg_left (by omega) (by omega)
  · rw [List.eraseIdx_append_of_length_le h, prod_append]
    have hp : 0 < prod (spare.eraseIdx (j - kept.length)) := prod_pos fun e he => hs2 e (List.mem_of_mem_eraseIdx he)
    have hk := prod_pos hk2
    have := Int.mul_le_mul_of_nonneg_left (show 1 ≤ prod (spare.eraseIdx (j - kept.length)) by omega) (show 0 ≤ prod kept by omega)
    omega
theorem one_place {kept spare : List Int} (g : GoodBase kept spare) (hs : spare ≠ []) {j : Nat} (hj : j < (kept ++ spare).length) {v n : Int} (hv : lowest kept ≤ v ∧ v ≤ highest kept) (hn : lowest kept ≤ n ∧ n ≤ highest kept)
    (h : ∀ i d, i ≠ j → (kept ++ spare)[i]? = some d → v % d = n % d) : v = n := by
  have lh := low_high kept
  have hp := span_left g hs hj
  refine same_of_rests (l := (kept ++ spare).eraseIdx j) (lo := lowest kept) (g.cop.sublist (List.eraseIdx_sublist _ _)) (fun d hd => ?_) hv.1 (by omega) hn.1 (by omega)
  obtain ⟨i, hi, e⟩ := List.mem_eraseIdx_iff_getElem?.mp hd
  exact h i d hi e
end RF
set_option Elab.async false
set_option linter.all false
set_option maxRecDepth 100000
set_option maxHeartbeats 4000000
namespace RF
open PySem L2
theorem map_erase : ∀ (ns : List Int) (i : Nat), (ns.map V.int).eraseIdx i = (ns.eraseIdx i).map V.int
  | [], _ => rfl
  | _ :: _, 0 => rfl
  | x :: r, i + 1 => by
    show V.int x :: (r.map V.int).eraseIdx i = V.int x :: (r.eraseIdx i).map V.int
    rw [map_erase r i]
theorem atI_ints {ns : List Int} {i : Int} (h0 : 0 ≤ i) (h1 : i < ns.length) : atI (ns.map V.int) i = some (.int (ns.getD i.toNat 0)) := by
  have e : i = (i.toNat : Int) := by omega
  have hl : i.toNat < ns.length := by omega
  generalize i.toNat = k at e hl
  subst e
  refine atI_nat ?_
  rw [List.getElem?_map, List.getD_eq_getElem?_getD, List.getElem?_eq_getElem hl]
  rfl
theorem cut_to {ns : List Int} {k : Int} (h : 0 ≤ k) : cutV (ns.map V.int) none (some k) = (ns.take k.toNat).map V.int := by
  have e : k = (k.toNat : Int) := by omega
  unfold cutV
  rw [HT.sIx_none, e, HT.sIx_nat, List.drop_zero, Nat.sub_zero, Int.toNat_natCast, List.map_take]
  rcases Nat.le_total k.toNat (ns.map V.int).length with hl | hl
  · rw [Nat.min_eq_left hl]
  · rw [Nat.min_eq_right hl, List.take_length, List.take_of_length_le hl]
theorem cut_from {ns : List Int} {k : Int} (h : 0 ≤ k) : cutV (ns.map V.int) (some k) none = (ns.drop k.toNat).map V.int := by
  have e : k = (k.toNat : Int) := by omega
  unfold cutV
  rw [HT.sIx_none, e, HT.sIx_nat, Int.toNat_natCast, List.map_drop]
  rcases Nat.le_total k.toNat (ns.map V.int).length with hl | hl
  · rw [Nat.min_eq_left hl]
    exact List.take_of_length_le (by rw [List.length_drop]; exact Nat.le_refl _)
  · rw [Nat.min_eq_right hl, List.drop_length, List.drop_of_length_le hl]
    simp
theorem sq_idx {n : Nat} {i : Int} (h0 : 0 ≤ i) (h1 : i < n) : seqIndex? i n = some i.toNat := (ixN_seq (by unfold ixN; rw [if_pos h0, if_pos h1])).1
structure BaseAt (H : Hp) (t : Addr) (kept spare : List Int) : Prop where
  ex : ∃ t1 t2, H t = some (.tup [.ref t1, .ref t2]) ∧ H t1 = some (.tup (kept.map V.int)) ∧ H t2 = some (.tup (spare.map V.int))
inductive isp_base_by (a : V) (H : Hp) (Q : VK) (E : XK) : Prop
  | mk (n : Int) (h0 : a = .int n) (q : ∀ kept spare t H', GoodBase kept spare → Same H H' → H t = none → BaseAt H' t kept spare → Q (.ref t) H') : isp_base_by a H Q E
noncomputable def sp_base_by : Sp := Sp1 (isp_base_by)
inductive isp_mixed (a b : V) (H : Hp) (Q : VK) (E : XK) : Prop
  | mk (n k : Int) (h0 : a = .int n) (h1 : b = .int k) (h2 : 0 ≤ k) (h3 : k ≤ 1000) (q : ∀ m : Int, 0 ≤ m → m < 998244353 → Q (.int m) H) : isp_mixed a b H Q E
noncomputable def sp_mixed : Sp := Sp2 (isp_mixed)
theorem kit_ii (K : PySem.W.Frag) : PySem.W.kitOne K (.type "int") (.type "int") = some true := by kernel_rfl
theorem kit_ib (K : PySem.W.Frag) : PySem.W.kitOne K (.type "int") (.type "bool") = some false := by kernel_rfl
theorem kit_tt (K : PySem.W.Frag) : PySem.W.kitOne K (.type "tuple") (.type "tuple") = some true := by kernel_rfl
theorem vint_eq {a b : Int} (h : decide (V.int a = V.int b) = true) : a = b := by have := of_decide_eq_true h; injection this
theorem vint_ne {a b : Int} (h : ¬ decide (V.int a = V.int b) = true) : a ≠ b := fun e => h (by rw [e]; exact decide_eq_true rfl)
section
variable {K : PySem.W.Frag}
end
noncomputable def Bas (H : Hp) (a : V) (kept spare : List Int) : Prop := (∃ t, a = V.ref t ∧ BaseAt H t kept spare) ∧ GoodBase kept spare
theorem BaseAt.up {H H' : Hp} {t : Addr} {kept spare : List Int} (B : BaseAt H t kept spare) (S : Same H H') : BaseAt H' t kept spare := by
  obtain ⟨t1, t2, a, b, c⟩ := B.ex
  exact ⟨t1, t2, S _ _ a, S _ _ b, S _ _ c⟩
theorem Bas.up {H H' : Hp} {a : V} {kept spare : List Int} (B : Bas H a kept spare) (S : Same H H') : Bas H' a kept spare := by
  obtain ⟨⟨t, e, b⟩, g⟩ := B
  exact ⟨⟨t, e, b.up S⟩, g⟩
theorem GoodBase.ne {kept spare : List Int} (g : GoodBase kept spare) : kept.map V.int ≠ [] := fun z => by
  have := congrArg List.length z
  have := g.k1
  simp only [List.length_map, List.length_nil] at *
  omega
theorem GoodBase.room {kept spare : List Int} (g : GoodBase kept spare) : (kept.map V.int).length + (spare.map V.int).length ≤ sizeLine := by
  have h1 := g.k6
  have h2 := g.s4
  rw [List.length_map, List.length_map]
  exact Nat.le_trans (show _ ≤ 10 by omega) (by decide)
theorem GoodBase.many {kept spare : List Int} (g : GoodBase kept spare) : ((kept ++ spare).map V.int).length < sizeLine := by
  have h1 := g.k6
  have h2 := g.s4
  rw [List.length_map, List.length_append]
  exact Nat.lt_of_le_of_lt (show _ ≤ 10 by omega) (by decide)
theorem GoodBase.span {kept spare : List Int} (g : GoodBase kept spare) : 0 < prod kept := prod_pos fun d hd => (g.rng d (List.mem_append_left _ hd)).1
theorem ints_at {ns : List Int} {i : Nat} {x : V} (h : (ns.map V.int)[i]? = some x) : ∃ d, ns[i]? = some d ∧ x = .int d := by
  rw [List.getElem?_map] at h
  cases hi : ns[i]? with
  | none => rw [hi] at h; cases h
  | some d => rw [hi] at h; cases h; exact ⟨d, rfl, rfl⟩
noncomputable def Fits (kept : List Int) (n : Int) : Prop := lowest kept ≤ n ∧ n ≤ highest kept
noncomputable instance (kept : List Int) (n : Int) : Decidable (Fits kept n) := inferInstanceAs (Decidable (_ ∧ _))
noncomputable def restV (n : Int) : V → V
  | .int d => .int (n % d)
  | _ => .non
theorem rests_map (n : Int) (ds : List Int) : (ds.map V.int).map (restV n) = (rests ds n).map V.int := by
  unfold rests
  rw [List.map_map, List.map_map]; rfl
inductive isp_divs (a : V) (H : Hp) (Q : VK) (E : XK) : Prop
  | mk (kept : List Int) (spare : List Int) (h0 : Bas H a kept spare) (q : ∀ p H', Same H H' → H' p = some (.tup ((kept ++ spare).map V.int)) → Q (.ref p) H') : isp_divs a H Q E
noncomputable def sp_divs : Sp := Sp1 (isp_divs)
inductive isp_span (a : V) (H : Hp) (Q : VK) (E : XK) : Prop
  | mk (kept : List Int) (spare : List Int) (h0 : Bas H a kept spare) (q : Q (.int (prod kept)) H) : isp_span a H Q E
noncomputable def sp_span : Sp := Sp1 (isp_span)
inductive isp_low (a : V) (H : Hp) (Q : VK) (E : XK) : Prop
  | mk (kept : List Int) (spare : List Int) (h0 : Bas H a kept spare) (q : Q (.int (lowest kept)) H) : isp_low a H Q E
noncomputable def sp_low : Sp := Sp1 (isp_low)
inductive isp_high (a : V) (H : Hp) (Q : VK) (E : XK) : Prop
  | mk (kept : List Int) (spare : List Int) (h0 : Bas H a kept spare) (q : Q (.int (highest kept)) H) : isp_high a H Q E
noncomputable def sp_high : Sp := Sp1 (isp_high)
inductive isp_fits (a b : V) (H : Hp) (Q : VK) (E : XK) : Prop
  | mk (kept : List Int) (spare : List Int) (n : Int) (h0 : Bas H a kept spare) (h1 : b = .int n) (q : Q (.bl (decide (Fits kept n))) H) : isp_fits a b H Q E
noncomputable def sp_fits : Sp := Sp2 (isp_fits)
inductive isp_rests (a b : V) (H : Hp) (Q : VK) (E : XK) : Prop
  | mk (kept : List Int) (spare : List Int) (n : Int) (h0 : Bas H a kept spare) (h1 : b = .int n) (q : ∀ l H', Same H H' → H l = none → H' l = some (.lst ((rests (kept ++ spare) n).map V.int)) → Q (.ref l) H') : isp_rests a b H Q E
noncomputable def sp_rests : Sp := Sp2 (isp_rests)
inductive isp_cell_at (K : PySem.W.Frag) (a b : V) (H : Hp) (Q : VK) (E : XK) : Prop
  | mk (l : Addr) (ns : List Int) (i : Int) (h0 : a = .ref l) (h1 : b = .int i) (h2 : SqL K H l (ns.map V.int)) (h3 : 0 ≤ i) (q : ∀ m : Int, Q (.int m) H) : isp_cell_at K a b H Q E
noncomputable def sp_cell_at (K : PySem.W.Frag) : Sp := Sp2 (isp_cell_at K)
inductive isp_fitting (a b : V) (H : Hp) (Q : VK) (E : XK) : Prop
  | mk (kept : List Int) (spare : List Int) (c : Int) (h0 : Bas H a kept spare) (h1 : b = .int c) (q : ∀ m : Int, lowest kept ≤ m → m ≤ highest kept → Q (.int m) H) : isp_fitting a b H Q E
noncomputable def sp_fitting : Sp := Sp2 (isp_fitting)
theorem kit_ll (K : PySem.W.Frag) : PySem.W.kitOne K (.type "list") (.type "list") = some true := by kernel_rfl
inductive isp_figure (cT : Addr) (a b : V) (H : Hp) (Q : VK) (E : XK) : Prop
  | mk (kept : List Int) (spare : List Int) (n : Int) (h0 : Bas H a kept spare) (h1 : b = .int n) (q : (Fits kept n → ∀ l H', Same H H' → H l = none → H' l = some (.lst ((rests (kept ++ spare) n).map V.int)) → Q (.ref l) H') ∧ (¬ Fits kept n → ∀ H', Same H H' → E (.ref cT) none H')) : isp_figure cT a b H Q E
noncomputable def sp_figure (cT : Addr) : Sp := Sp2 (isp_figure cT)
inductive isp_law (K : PySem.W.Frag) (a : V) (H : Hp) (Q : VK) (E : XK) : Prop
  | mk (l : Addr) (ns : List Int) (h0 : a = .ref l) (h1 : SqL K H l (ns.map V.int)) (h2 : ns.length ≤ 63) (q : ∀ H', Q (.bl true) H') : isp_law K a H Q E
noncomputable def sp_law (K : PySem.W.Frag) : Sp := Sp1 (isp_law K)
theorem md0 (a : Int) {n : Int} (h : 0 < n) : 0 ≤ a % n := Int.emod_nonneg _ (Int.ne_of_gt h)
theorem md1 (a : Int) {n : Int} (h : 0 < n) : a % n < n := Int.emod_lt_of_pos _ h
theorem atI_mod {ns : List Int} (a : Int) {m : Int} (hm : (ns.length : Int) = m) (h : 0 < m) : atI (ns.map V.int) (a % m) = some (.int (ns.getD (a % m).toNat 0)) := atI_ints (md0 a h) (by rw [hm]; exact md1 a h)
theorem pos1 {M : Int} (h : 1 ≤ M) : 0 < M := h
theorem nn1 {M : Int} (h : 1 ≤ M) : 0 ≤ M := Int.le_of_lt (pos1 h)
theorem many6 (a : Int) : 1 ≤ 1 + a % 6 ∧ 1 + a % 6 ≤ 6 := by omega
theorem le14 {M : Int} (h : M ≤ 6) (a : Int) : M + a % 5 ≤ ((14 : Nat) : Int) := by omega
theorem pos_len {M x : Int} (m1 : 1 ≤ M) {a : Int} (h : M + a % 5 < x) : 0 < x := by omega
theorem toNat_lt {x : Int} {n : Nat} (h0 : 0 ≤ x) (h1 : x < n) : x.toNat < n := by omega
theorem big_ix {x : Int} {n : Nat} (h0 : 0 ≤ x) (h1 : x < n) (hn : n ≤ 14) : -(2 ^ 63) ≤ x ∧ x < 2 ^ 63 := by omega
theorem sub1 {n : Nat} (h : 0 < (n : Int)) : n - 1 < n := by omega
theorem le_sub1 {x : Int} {n : Nat} (h : x < n) (h' : 0 < (n : Int)) : x ≤ ((n - 1 : Nat) : Int) := by omega
theorem cut_n {M a : Int} {len : Nat} (m1 : 1 ≤ M) (m2 : M ≤ 6) (h : (len : Int) = M + a % 5) : (1 ≤ M.toNat ∧ M.toNat ≤ 6) ∧ M.toNat ≤ len ∧ len ≤ M.toNat + 4 := by omega
theorem take_len (ns : List Int) (m k a : Nat) (h : ns.length ≤ 14) : (((ns.take m).drop a).map V.int).length + (((ns.take k).take a).map V.int).length ≤ sizeLine := by
  simp only [List.length_map, List.length_drop, List.length_take]
  have : (30 : Nat) ≤ sizeLine := by decide
  omega
theorem near_k {M n : Int} (m1 : 1 ≤ M) (m2 : M ≤ 6) : 0 ≤ n / 252 % (if 11 - M < 5 then 11 - M else 5) ∧ n / 252 % (if 11 - M < 5 then 11 - M else 5) ≤ 4 ∧ M + n / 252 % (if 11 - M < 5 then 11 - M else 5) ≤ 10 := by
  by_cases h : 11 - M < 5
  · rw [if_pos h]
    have b0 : 0 ≤ n / 252 % (11 - M) := Int.emod_nonneg _ (by omega)
    have b1 : n / 252 % (11 - M) < 11 - M := Int.emod_lt_of_pos _ (by omega)
    omega
  · rw [if_neg h]
    omega
theorem near_p {M : Int} (m1 : 1 ≤ M) (m2 : M ≤ 6) : (if 11 - M < 5 then 11 - M else (5 : Int)) > 0 := by split <;> omega
theorem near_n {M at' kk : Int} (m1 : 1 ≤ M) (m2 : M ≤ 6) (k0 : 0 ≤ kk) (k4 : kk ≤ 4) (k10 : M + kk ≤ 10) (a0 : 0 ≤ at') (a1 : at' < M) : ((1 ≤ M.toNat ∧ M.toNat ≤ 6) ∧ kk.toNat ≤ 4 ∧ M.toNat + kk.toNat ≤ 10 ∧ at'.toNat ≤ M.toNat) ∧ (M + kk).toNat = M.toNat + kk.toNat ∧ 0 ≤ M + kk := by omega
theorem pos2 {d : Int} (h : 2 ≤ d) : 0 < d := by omega
theorem d64 {d : Int} (h2 : 2 ≤ d) (h6 : d ≤ 1000000) : -(2 ^ 64) < d ∧ d < 2 ^ 64 := by omega
theorem v64 {v d : Int} (h0 : 0 ≤ v) (h1 : v < d) (h6 : d ≤ 1000000) : -(2 ^ 64) < v ∧ v < 2 ^ 64 := by omega
theorem sz40 {d s : Int} (h2 : 2 ≤ d) (h6 : d ≤ 1000000) (m1 : s < d) : d * s < 2 ^ 40 := by
  have a := Int.mul_le_mul_of_nonneg_left (show s ≤ 1000000 by omega) (show 0 ≤ d by omega)
  have b : (2 : Int) ^ 40 = 1099511627776 := by decide
  omega
theorem two_of {x : Int} (h0 : 0 ≤ x) (h1 : x ≠ 0) (h2 : x ≠ 1) : 2 ≤ x := by omega
theorem lt30 {x d : Int} (h2 : 2 ≤ x) (h : x < d) (h6 : d ≤ 1000000) : (x ≤ 1000000) ∧ (0 < x ∧ x < 1073741824) := by omega
end RF
set_option linter.all false
namespace RF
structure IsKept (kept fig : List Int) (v : Int) : Prop where
  fits : Fits kept v
  rs : ∀ (j : Nat) (d r : Int), kept[j]? = some d → fig[j]? = some r → v % d = r
structure Valid (ds fig : List Int) : Prop where
  len : fig.length = ds.length
  rng : ∀ (j : Nat) (d r : Int), ds[j]? = some d → fig[j]? = some r → 0 ≤ r ∧ r < d
theorem GoodBase.copK {kept spare : List Int} (g : GoodBase kept spare) : kept.Pairwise Cop := (List.pairwise_append.mp g.cop).1
theorem kept_unique {kept spare fig : List Int} (g : GoodBase kept spare) (hl : kept.length ≤ fig.length) {v u : Int} (a : IsKept kept fig v) (b : IsKept kept fig u) : v = u := by
  have lh := low_high kept
  refine same_of_rests g.copK (lo := lowest kept) (fun d hd => ?_) a.fits.1 (by have := a.fits.2; omega) b.fits.1 (by have := b.fits.2; omega)
  obtain ⟨j, hj, e⟩ := List.mem_iff_getElem.mp hd
  have h1 : kept[j]? = some d := by rw [List.getElem?_eq_getElem hj, e]
  have h2 : fig[j]? = some fig[j] := List.getElem?_eq_getElem (by omega)
  rw [a.rs j d _ h1 h2, b.rs j d _ h1 h2]
theorem emod_sub_span {kept : List Int} {d x : Int} (hd : d ∈ kept) : (x - prod kept) % d = x % d := by
  obtain ⟨k, e⟩ := dvd_prod hd
  rw [e, Int.sub_mul_emod_self_left]
theorem kept_low {kept fig : List Int} {number step : Int} (u : Upto kept fig kept.length number step) (h : ¬ highest kept < number) : IsKept kept fig number := by
  refine ⟨⟨?_, by omega⟩, fun j d r hd hr => u.rs j (List.getElem?_eq_some_iff.mp hd).1 d r hd hr⟩
  have := u.lo
  have h2 : 0 < prod kept := by
    have := u.st
    rw [List.take_length] at this
    have := u.hi
    omega
  unfold lowest
  omega
theorem kept_high {kept fig : List Int} {number step : Int} (u : Upto kept fig kept.length number step) (h : highest kept < number) : IsKept kept fig (number - prod kept) := by
  have hs := u.st
  rw [List.take_length] at hs
  have hi := u.hi
  have lh := low_high kept
  refine ⟨⟨by omega, ?_⟩, fun j d r hd hr => by rw [emod_sub_span (List.mem_of_getElem? hd)]; exact u.rs j (List.getElem?_eq_some_iff.mp hd).1 d r hd hr⟩
  have h0 := u.lo
  have : 0 ≤ highest kept := by unfold highest; omega
  omega
theorem rests_get {ds : List Int} {n : Int} {j : Nat} {d : Int} (h : ds[j]? = some d) : (rests ds n)[j]? = some (n % d) := by
  unfold rests; rw [List.getElem?_map, h]; rfl
theorem rests_length (ds : List Int) (n : Int) : (rests ds n).length = ds.length := List.length_map ..
theorem rests_valid {ds : List Int} (h2 : ∀ d ∈ ds, 2 ≤ d) (n : Int) : Valid ds (rests ds n) := by
  refine ⟨rests_length _ _, fun j d r hd hr => ?_⟩
  rw [rests_get hd] at hr
  cases hr
  have := h2 d (List.mem_of_getElem? hd)
  exact ⟨Int.emod_nonneg _ (by omega), Int.emod_lt_of_pos _ (by omega)⟩
theorem kept_of_rests {kept spare : List Int} {n v : Int} (hf : Fits kept v) (e : ∀ d ∈ kept, v % d = n % d) : IsKept kept (rests (kept ++ spare) n) v := by
  refine ⟨hf, fun j d r hd hr => ?_⟩
  have hj := (List.getElem?_eq_some_iff.mp hd).1
  rw [rests_get (show (kept ++ spare)[j]? = some d by rw [List.getElem?_append_left hj]; exact hd)] at hr
  cases hr
  exact e d (List.mem_of_getElem? hd)
theorem kept_of_fits {kept spare : List Int} {n : Int} (hf : Fits kept n) : IsKept kept (rests (kept ++ spare) n) n := kept_of_rests hf fun _ _ => rfl
theorem bad_long {ds fig : List Int} {x : Int} (h : fig.length = ds.length) : ¬ Valid ds (fig ++ [x]) := fun v => by
  have := v.len
  rw [List.length_append] at this
  simp only [List.length_singleton] at this
  omega
theorem bad_short {ds fig : List Int} (h : fig.length = ds.length) (h1 : 1 ≤ ds.length) : ¬ Valid ds (fig.take (fig.length - 1)) := fun v => by
  have := v.len
  rw [List.length_take] at this
  omega
theorem bad_at {ds fig : List Int} {j : Nat} {d x : Int} (hl : fig.length = ds.length) (hd : ds[j]? = some d) (hx : x < 0 ∨ d ≤ x) : ¬ Valid ds (fig.set j x) := fun v => by
  have hj := (List.getElem?_eq_some_iff.mp hd).1
  have := v.rng j d x hd (by rw [List.getElem?_set_self (by omega)])
  omega
theorem Valid.kept_len {kept spare ns : List Int} (v : Valid (kept ++ spare) ns) : kept.length ≤ ns.length := by
  have := v.len
  rw [List.length_append] at this
  omega
theorem Valid.kept_rng {kept spare ns : List Int} (v : Valid (kept ++ spare) ns) : ∀ (j : Nat) (d r : Int), kept[j]? = some d → ns[j]? = some r → 0 ≤ r ∧ r < d := fun j d r hd hr =>
  v.rng j d r (by rw [List.getElem?_append_left (List.getElem?_eq_some_iff.mp hd).1]; exact hd) hr
open PySem L2
theorem shaped_ints (a : List Int) : SeqAt.shaped (.list (a.map .int)) = true := by
  simp [SeqAt.shaped, PyData.canLay0, PyData.canLayAll0, PyData.depth, PyData.depthAll, PySem.W.ke_canLayAll0, PySem.W.ke_depthAll]
theorem eqv_ints : ∀ a b : List Int, PyData.eqv (.list (a.map .int)) (.list (b.map .int)) = decide (a = b) := by
  have all : ∀ a b : List Int, PyData.eqvAll (a.map .int) (b.map .int) = decide (a = b) := by
    intro a
    induction a with
    | nil => intro b; cases b <;> simp [PyData.eqvAll]
    | cons x r ih =>
      intro b
      cases b with
      | nil => simp [PyData.eqvAll]
      | cons y q =>
        simp only [List.map_cons, PyData.eqvAll, PyData.eqv, ih q]
        by_cases h : x = y <;> by_cases h2 : r = q <;> simp [h, h2]
  intro a b
  simp only [PyData.eqv, all]
theorem rdL {K : PySem.W.Frag} {H : Hp} {l : Addr} {xs : List Int} (h : H l = some (.lst (xs.map V.int))) : RdD K H (.ref l) (.list (xs.map .int)) := .lst (SqL.of h) (.ints xs)
inductive isp_inv (j : Nat) (a b : V) (H : Hp) (Q : VK) (E : XK) : Prop
  | mk (n d : Int) (h0 : a = .int n) (h1 : b = .int d) (h2 : 2 ≤ d) (h3 : d ≤ 1000000) (h4 : Cop n d) (h5 : d * (n % d) < 2 ^ j) (q : ∀ v, IsInv n d v → Q (.int v) H) : isp_inv j a b H Q E
noncomputable def sp_inv (j : Nat) : Sp := Sp2 (isp_inv j)
inductive isp_by_kept (a b : V) (H : Hp) (Q : VK) (E : XK) : Prop
  | mk (kept spare : List Int) (l : Addr) (ns : List Int) (h0 : Bas H a kept spare) (h1 : b = .ref l) (h2 : H l = some (.lst (ns.map V.int))) (h3 : kept.length ≤ ns.length) (h4 : (∀ (j : Nat) (d r : Int), kept[j]? = some d → ns[j]? = some r → 0 ≤ r ∧ r < d)) (q : ∀ v H', IsKept kept ns v → Same H H' → Q (.int v) H') : isp_by_kept a b H Q E
noncomputable def sp_by_kept : Sp := Sp2 (isp_by_kept)
inductive isp_refuse (cB : Addr) (a b : V) (H : Hp) (Q : VK) (E : XK) : Prop
  | mk (kept spare : List Int) (l : Addr) (ns : List Int) (h0 : Bas H a kept spare) (h1 : b = .ref l) (h2 : H l = some (.lst (ns.map V.int))) (q : (Valid (kept ++ spare) ns → ∀ H', Same H H' → Q .non H') ∧ (¬ Valid (kept ++ spare) ns → ∀ H', Same H H' → E (.ref cB) none H')) : isp_refuse cB a b H Q E
noncomputable def sp_refuse (cB : Addr) : Sp := Sp2 (isp_refuse cB)
inductive isp_is_right (cB : Addr) (a b : V) (H : Hp) (Q : VK) (E : XK) : Prop
  | mk (kept spare : List Int) (l : Addr) (ns : List Int) (h0 : Bas H a kept spare) (h1 : b = .ref l) (h2 : H l = some (.lst (ns.map V.int))) (q : (Valid (kept ++ spare) ns → ∀ v H', IsKept kept ns v → Same H H' → Q (.bl (decide (rests (kept ++ spare) v = ns))) H') ∧ (¬ Valid (kept ++ spare) ns → ∀ H', Same H H' → E (.ref cB) none H')) : isp_is_right cB a b H Q E
noncomputable def sp_is_right (cB : Addr) : Sp := Sp2 (isp_is_right cB)
inductive isp_number_of (cB cW : Addr) (a b : V) (H : Hp) (Q : VK) (E : XK) : Prop
  | mk (kept spare : List Int) (l : Addr) (ns : List Int) (h0 : Bas H a kept spare) (h1 : b = .ref l) (h2 : H l = some (.lst (ns.map V.int))) (q : (Valid (kept ++ spare) ns → ∀ v H', IsKept kept ns v → rests (kept ++ spare) v = ns → Same H H' → Q (.int v) H') ∧ (Valid (kept ++ spare) ns → ∀ v H', IsKept kept ns v → rests (kept ++ spare) v ≠ ns → Same H H' → E (.ref cW) none H') ∧ (¬ Valid (kept ++ spare) ns → ∀ H', Same H H' → E (.ref cB) none H')) : isp_number_of cB cW a b H Q E
noncomputable def sp_number_of (cB cW : Addr) : Sp := Sp2 (isp_number_of cB cW)
theorem cut_last {ns : List Int} (h : 1 ≤ ns.length) : cutV (ns.map V.int) none (some (-1)) = (ns.take (ns.length - 1)).map V.int := by
  unfold cutV
  rw [HT.sIx_none, List.length_map]
  have e : HT.sIx ns.length ns.length (some (-1)) = ns.length - 1 := by
    show (if (-1 : Int) < 0 then (-1 + (ns.length : Int)).toNat else min (-1 : Int).toNat ns.length) = _
    rw [if_pos (by decide)]; omega
  rw [e, List.drop_zero, Nat.sub_zero, List.map_take]
end RF
set_option linter.all false
namespace RF
open PySem L2
inductive isp_prodT (a : V) (H : Hp) (Q : VK) (E : XK) : Prop
  | mk (t : Addr) (ds : List Int) (h0 : a = .ref t) (h1 : H t = some (.tup (ds.map V.int))) (h2 : (∀ d ∈ ds, 2 ≤ d ∧ d ≤ 1000000)) (q : Q (.int (prod ds)) H) : isp_prodT a H Q E
noncomputable def sp_prodT : Sp := Sp1 (isp_prodT)
inductive isp_by_rests (a b : V) (H : Hp) (Q : VK) (E : XK) : Prop
  | mk (t l : Addr) (ds ns : List Int) (h0 : a = .ref t) (h1 : b = .ref l) (h2 : H t = some (.tup (ds.map V.int))) (h3 : H l = some (.lst (ns.map V.int))) (h4 : (∀ d ∈ ds, 2 ≤ d ∧ d ≤ 1000000)) (h5 : ds.Pairwise Cop) (h6 : ds.length ≤ ns.length) (h7 : (∀ (j : Nat) (d r : Int), ds[j]? = some d → ns[j]? = some r → 0 ≤ r ∧ r < d)) (q : ∀ v H', IsKept ds ns v → Same H H' → Q (.int v) H') : isp_by_rests a b H Q E
noncomputable def sp_by_rests : Sp := Sp2 (isp_by_rests)
theorem kept_take {kept ns : List Int} {v : Int} (h : IsKept kept (ns.take kept.length) v) : IsKept kept ns v :=
  ⟨h.fits, fun j d r hd hr => h.rs j d r hd (by rw [List.getElem?_take_of_lt (List.getElem?_eq_some_iff.mp hd).1]; exact hr)⟩
theorem take_rng {kept ns : List Int} (h : ∀ (j : Nat) (d r : Int), kept[j]? = some d → ns[j]? = some r → 0 ≤ r ∧ r < d) : ∀ (j : Nat) (d r : Int), kept[j]? = some d → (ns.take kept.length)[j]? = some r → 0 ≤ r ∧ r < d := fun j d r hd hr =>
  h j d r hd (by rw [List.getElem?_take_of_lt (List.getElem?_eq_some_iff.mp hd).1] at hr; exact hr)
theorem right_number {cB cW : Addr} {H : Hp} {a : V} {l : Addr} {kept spare : List Int} {n : Int} {Q : VK} {E : XK} (B : Bas H a kept spare) (el : H l = some (.lst ((rests (kept ++ spare) n).map V.int))) (hf : Fits kept n)
    (q : ∀ H', Same H H' → Q (.int n) H') : sp_number_of cB cW [a, .ref l] H Q E := by
  have h2 : ∀ d ∈ kept ++ spare, 2 ≤ d := fun d hd => (B.2.rng d hd).1
  have hv : Valid (kept ++ spare) (rests (kept ++ spare) n) := rests_valid h2 n
  have un : ∀ v, IsKept kept (rests (kept ++ spare) n) v → v = n := fun v hk => kept_unique B.2 hv.kept_len hk (kept_of_fits hf)
  exact ⟨a, .ref l, rfl, kept, spare, l, _, B, rfl, el, fun _ v H' hk _ S => by rw [un v hk]; exact q H' S, fun _ v H' hk he S => absurd (by rw [un v hk]) he, fun z => absurd hv z⟩
end RF
set_option linter.all false
namespace RF
open PySem L2
noncomputable def RightF (kept spare ns : List Int) (n : Int) : Prop := ns = rests (kept ++ spare) n ∧ Fits kept n
noncomputable def WrongF (kept spare ns : List Int) : Prop := Valid (kept ++ spare) ns ∧ ∀ v, IsKept kept ns v → rests (kept ++ spare) v ≠ ns
theorem fig_cases {kept spare : List Int} (ns : List Int) : (∃ n, RightF kept spare ns n) ∨ WrongF kept spare ns ∨ ¬ Valid (kept ++ spare) ns := by
  by_cases hv : Valid (kept ++ spare) ns
  · by_cases hr : ∃ n, RightF kept spare ns n
    · exact .inl hr
    · exact .inr (.inl ⟨hv, fun v hk e => hr ⟨v, e.symm, hk.fits⟩⟩)
  · exact .inr (.inr hv)
theorem RightF.valid {kept spare ns : List Int} {n : Int} (g : GoodBase kept spare) (h : RightF kept spare ns n) : Valid (kept ++ spare) ns := by
  rw [h.1]; exact rests_valid (fun d hd => (g.rng d hd).1) n
theorem RightF.uniq {kept spare ns : List Int} {n m : Int} (g : GoodBase kept spare) (h : RightF kept spare ns n) (h' : RightF kept spare ns m) : n = m := by
  have a : IsKept kept ns n := by rw [h.1]; exact kept_of_fits h.2
  have b : IsKept kept ns m := by rw [h'.1]; exact kept_of_fits h'.2
  exact kept_unique g (h.valid g).kept_len a b
theorem RightF.notWrong {kept spare ns : List Int} {n : Int} (h : RightF kept spare ns n) (w : WrongF kept spare ns) : False :=
  w.2 n (by rw [h.1]; exact kept_of_fits h.2) h.1.symm
theorem right_number' {cB cW : Addr} {H : Hp} {a : V} {l : Addr} {kept spare ns : List Int} {n : Int} {Q : VK} {E : XK} (B : Bas H a kept spare) (el : H l = some (.lst (ns.map V.int))) (h : RightF kept spare ns n)
    (q : ∀ H', Same H H' → Q (.int n) H') : sp_number_of cB cW [a, .ref l] H Q E := by
  obtain ⟨rfl, hf⟩ := h
  exact right_number B el hf q
theorem wrong_number {cB cW : Addr} {H : Hp} {a : V} {l : Addr} {kept spare ns : List Int} {Q : VK} {E : XK} (B : Bas H a kept spare) (el : H l = some (.lst (ns.map V.int))) (h : WrongF kept spare ns)
    (e : ∀ H', Same H H' → E (.ref cW) none H') : sp_number_of cB cW [a, .ref l] H Q E :=
  ⟨a, .ref l, rfl, kept, spare, l, ns, B, rfl, el, fun _ v _ hk he _ => absurd he (h.2 v hk), fun _ _ H' _ _ S => e H' S, fun z => absurd h.1 z⟩
open Classical in
noncomputable def numV (kept spare ns : List Int) : V := if h : ∃ n, RightF kept spare ns n then .int h.choose else .non
theorem numV_right {kept spare ns : List Int} {n : Int} (g : GoodBase kept spare) (h : RightF kept spare ns n) : numV kept spare ns = .int n := by
  have hx : ∃ n, RightF kept spare ns n := ⟨n, h⟩
  unfold numV
  rw [dif_pos hx]
  rw [RightF.uniq g hx.choose_spec h]
end RF
set_option linter.all false
namespace RF
open PySem L2
noncomputable def FigW (kept spare : List Int) (n : Int) (ns : List Int) (word : Str) : Prop := (word = "" ∧ ns = rests (kept ++ spare) n) ∨ (word = "figure" ∧ ¬ Valid (kept ++ spare) ns) ∨ (word = "wrong" ∧ WrongF kept spare ns)
noncomputable def dueOf (kept spare : List Int) (x : Int) (ws : List Str) : Str × List Int :=
  if ("figure" : Str) ∈ ws then ("figure", []) else if ("wrong" : Str) ∈ ws then ("wrong", []) else if Fits kept x then ("", rests (kept ++ spare) x) else ("great", [])
inductive isp_spoiltW (a b c : V) (H : Hp) (Q : VK) (E : XK) : Prop
  | mk (kept spare : List Int) (l : Addr) (n nb : Int) (h0 : Bas H a kept spare) (h1 : b = .ref l) (h2 : c = .int nb) (h3 : H l = some (.lst ((rests (kept ++ spare) n).map V.int))) (h4 : Fits kept n) (h5 : 0 ≤ nb) (q : ∀ t l' ns word H', Same H H' → H' t = some (.tup [.ref l', .str word]) → H' l' = some (.lst (ns.map V.int)) → ns.length ≤ 20 → FigW kept spare n ns word → Q (.ref t) H') : isp_spoiltW a b c H Q E
noncomputable def sp_spoiltW : Sp := Sp3 (isp_spoiltW)
inductive isp_due (a b c : V) (H : Hp) (Q : VK) (E : XK) : Prop
  | mk (kept spare : List Int) (x : Int) (lw : Addr) (ws : List Str) (h0 : Bas H a kept spare) (h1 : b = .int x) (h2 : c = .ref lw) (h3 : H lw = some (.lst (ws.map V.str))) (q : ∀ t l' H', Same H H' → H' t = some (.tup [.str (dueOf kept spare x ws).1, .ref l']) → H' l' = some (.lst ((dueOf kept spare x ws).2.map V.int)) → Q (.ref t) H') : isp_due a b c H Q E
noncomputable def sp_due : Sp := Sp3 (isp_due)
theorem flat_strs (ws : List Str) : (ws.map V.str).all flatV = true := by rw [List.all_eq_true]; intro y hy; obtain ⟨z, _, rfl⟩ := List.mem_map.mp hy; rfl
theorem in_strs (z : Str) : ∀ ws : List Str, inV (.str z) (ws.map V.str) = decide (z ∈ ws)
  | [] => rfl
  | y :: r => by
    have ih := in_strs z r
    unfold inV at ih ⊢
    rw [List.map_cons, List.any_cons, ih]
    show (eqV (.str y) (.str z) || _) = _
    by_cases h : y = z
    · subst h; simp [eqV]
    · have h' : z ≠ y := fun e => h e.symm
      simp [eqV, h, h']
theorem kit_ilt (K : PySem.W.Frag) : PySem.W.kitAny K (.type "int") (["list", "tuple"].map Value.type) = some false := by kernel_rfl
theorem kit_llt (K : PySem.W.Frag) : PySem.W.kitAny K (.type "list") (["list", "tuple"].map Value.type) = some true := by kernel_rfl
theorem kit_lt (K : PySem.W.Frag) : PySem.W.kitOne K (.type "list") (.type "tuple") = some false := by kernel_rfl
theorem cut_mid {ns : List Int} {a b : Int} (ha : 0 ≤ a) (hb : 0 ≤ b) : cutV (ns.map V.int) (some a) (some b) = ((ns.take b.toNat).drop a.toNat).map V.int := by
  have ea : a = (a.toNat : Int) := by omega
  have eb : b = (b.toNat : Int) := by omega
  unfold cutV
  rw [ea, eb, HT.sIx_nat, HT.sIx_nat, Int.toNat_natCast, Int.toNat_natCast, List.map_drop, List.map_take, List.drop_take]
  generalize a.toNat = i
  generalize b.toNat = j
  rw [List.length_map]
  rcases Nat.le_total i ns.length with hi | hi
  · rw [Nat.min_eq_left hi]
    rcases Nat.le_total j ns.length with hj | hj
    · rw [Nat.min_eq_left hj]
    · rw [Nat.min_eq_right hj, List.take_of_length_le (by rw [List.length_drop, List.length_map]; omega), List.take_of_length_le (by rw [List.length_drop, List.length_map]; omega)]
  · rw [Nat.min_eq_right hi]
    simp [List.drop_of_length_le, hi]
theorem set_cut {ns : List Int} {j : Nat} {x : Int} (h : j < ns.length) : ns.take j ++ [x] ++ ns.drop (j + 1) = ns.set j x := by
  rw [List.set_eq_take_append_cons_drop, if_pos h, List.append_assoc]; rfl
theorem other_rest {r d q : Int} (h0 : 0 ≤ r) (h1 : r < d) (hq : 0 ≤ q) (hq1 : q < d - 1) : (r + 1 + q) % d ≠ r := fun e => by
  rcases Int.lt_or_le (r + 1 + q) d with h | h
  · rw [Int.emod_eq_of_lt (by omega) h] at e; omega
  · have : (r + 1 + q) % d = r + 1 + q - d := by
      have := Int.sub_emod_right (r + 1 + q) d
      rw [← this, Int.emod_eq_of_lt (by omega) (by omega)]
    omega
theorem wrong_of_set {kept spare : List Int} (g : GoodBase kept spare) (hs : spare ≠ []) {n x d : Int} {j : Nat} (hf : Fits kept n) (hd : (kept ++ spare)[j]? = some d) (h0 : 0 ≤ x) (h1 : x < d) (hne : x ≠ n % d) : WrongF kept spare ((rests (kept ++ spare) n).set j x) := by
  have hj := (List.getElem?_eq_some_iff.mp hd).1
  have hl := rests_length (kept ++ spare) n
  have at' : ∀ i e, i ≠ j → (kept ++ spare)[i]? = some e → ((rests (kept ++ spare) n).set j x)[i]? = some (n % e) := fun i e hi he => by
    rw [List.getElem?_set_ne (Ne.symm hi)]; exact rests_get he
  have atj : ((rests (kept ++ spare) n).set j x)[j]? = some x := List.getElem?_set_self (by omega)
  refine ⟨⟨by rw [List.length_set, hl], fun i e r he hr => ?_⟩, fun v hk e => ?_⟩
  · by_cases hi : i = j
    · subst hi
      rw [hd] at he; cases he
      rw [atj] at hr; cases hr
      exact ⟨h0, h1⟩
    · rw [at' i e hi he] at hr; cases hr
      have := (g.rng e (List.mem_of_getElem? he)).1
      exact ⟨Int.emod_nonneg _ (by omega), Int.emod_lt_of_pos _ (by omega)⟩
  · have hv : v = n := one_place g hs hj hk.fits hf fun i e' hi he => by
      have h := rests_get (n := v) he
      rw [e, at' i e' hi he] at h
      exact (Option.some.inj h).symm
    have h := rests_get (n := v) hd
    rw [e, atj, hv] at h
    exact hne (Option.some.inj h)
theorem nearList_ok : (∀ d ∈ ([999863, 999883, 999907, 999917, 999931, 999953, 999959, 999961, 999979, 999983] : List Int), 2 ≤ d ∧ d ≤ 1000000) ∧ ([999863, 999883, 999907, 999917, 999931, 999953, 999959, 999961, 999979, 999983] : List Int).Pairwise Cop ∧
    ([999863, 999883, 999907, 999917, 999931, 999953, 999959, 999961, 999979, 999983] : List Int).Pairwise (· < ·) := ⟨by decide, by decide +kernel, by decide⟩
theorem near_base {many at' k : Nat} (h1 : 1 ≤ many) (h6 : many ≤ 6) (hk : k ≤ 4) (hm : many + k ≤ 10) (ha : at' ≤ many) :
    GoodBase ((([999863, 999883, 999907, 999917, 999931, 999953, 999959, 999961, 999979, 999983] : List Int).take many).drop at' ++ ([999863, 999883, 999907, 999917, 999931, 999953, 999959, 999961, 999979, 999983] : List Int).take at')
      ((([999863, 999883, 999907, 999917, 999931, 999953, 999959, 999961, 999979, 999983] : List Int).take (many + k)).drop many) := by
  obtain ⟨a, b, c⟩ := nearList_ok
  generalize hL : ([999863, 999883, 999907, 999917, 999931, 999953, 999959, 999961, 999979, 999983] : List Int) = L at *
  have hl : L.length = 10 := by rw [← hL]; rfl
  have sub : (L.take (many + k)).Sublist L := List.take_sublist _ _
  have g := good_cut (l := L.take (many + k)) (n := many) (at' := at') (rev := false) (fun d hd => a d (sub.subset hd)) (b.sublist sub) (c.sublist sub) h1 h6 (by rw [List.length_take]; omega) (by rw [List.length_take]; omega)
  have e1 : (L.take (many + k)).take many = L.take many := by rw [List.take_take, Nat.min_eq_left (by omega)]
  have e2 : (L.take many).take at' = L.take at' := by rw [List.take_take, Nat.min_eq_left ha]
  rw [e1, e2] at g
  exact g
end RF
set_option linter.all false
namespace RF
open PySem L2
theorem prod_le_pow : ∀ {l : List Int}, (∀ d ∈ l, 2 ≤ d ∧ d ≤ 1000000) → prod l ≤ 1000000 ^ l.length
  | [], _ => by decide
  | d :: r, h => by
    have hd := h d List.mem_cons_self
    have ih := prod_le_pow (l := r) fun e he => h e (List.mem_cons_of_mem _ he)
    have hp := prod_pos (l := r) fun e he => (h e (List.mem_cons_of_mem _ he)).1
    show d * prod r ≤ 1000000 ^ (r.length + 1)
    rw [Int.pow_succ, Int.mul_comm]
    have a := Int.mul_le_mul_of_nonneg_left hd.2 (show 0 ≤ prod r by omega)
    have b := Int.mul_le_mul_of_nonneg_right ih (show (0 : Int) ≤ 1000000 by decide)
    omega
theorem GoodBase.small {kept spare : List Int} (g : GoodBase kept spare) : prod kept < 2 ^ 120 := by
  have h := prod_le_pow (l := kept) fun d hd => g.rng d (List.mem_append_left _ hd)
  have k6 := g.k6
  have h2 : ∀ m : Nat, m < 7 → (1000000 : Int) ^ m ≤ 1000000 ^ 6 := by decide
  have h2 := h2 kept.length (by omega)
  have h3 : (1000000 : Int) ^ 6 < 2 ^ 120 := by decide
  omega
theorem Fits.small {kept spare : List Int} (g : GoodBase kept spare) {n : Int} (h : Fits kept n) : -(2 ^ 120) < n ∧ n < 2 ^ 120 := by
  have h1 := h.1
  have h2 := h.2
  have h3 := g.small
  have h4 := g.span
  unfold lowest at h1
  unfold highest at h2
  omega
noncomputable def theWords : List Str := ["great", "figure", "wrong", "divisor", "place", "base", "unlike"]
structure IsC (K : PySem.W.Frag) (cR c0 c1 c2 c3 c4 c5 c6 : Addr) (c : Addr) (j : Nat) : Prop where
  g : ExcC K c
  r : PySem.W.exmOne K (.ref c) (.ref cR) = some true
  v : PySem.W.kitOne K (.ref c) (.type "ValueError") = some true
  k0 : PySem.W.kitOne K (.ref c) (.ref c0) = some (decide (j = 0))
  k1 : PySem.W.kitOne K (.ref c) (.ref c1) = some (decide (j = 1))
  k2 : PySem.W.kitOne K (.ref c) (.ref c2) = some (decide (j = 2))
  k3 : PySem.W.kitOne K (.ref c) (.ref c3) = some (decide (j = 3))
  k4 : PySem.W.kitOne K (.ref c) (.ref c4) = some (decide (j = 4))
  k5 : PySem.W.kitOne K (.ref c) (.ref c5) = some (decide (j = 5))
  k6 : PySem.W.kitOne K (.ref c) (.ref c6) = some (decide (j = 6))
noncomputable def sp_class (K : PySem.W.Frag) (cR c0 c1 c2 c3 c4 c5 c6 : Addr) : Sp := Sp1 fun a H Q _ => ∃ ea c j, ∃ w : Str, a = .ref ea ∧ H ea = some (.ext (exPhi ea c none)) ∧ IsC K cR c0 c1 c2 c3 c4 c5 c6 c j ∧ theWords[j]? = some w ∧ ∀ H', Same H H' → Q (.str w) H'
noncomputable def WordC (K : PySem.W.Frag) (cR c0 c1 c2 c3 c4 c5 c6 : Addr) (w : Str) (c : Addr) : Prop := ∃ j, IsC K cR c0 c1 c2 c3 c4 c5 c6 c j ∧ theWords[j]? = some w
noncomputable def toldL (j : Nat) : List V := [.bl (decide (j = 0)), .bl (decide (j = 1)), .bl (decide (j = 2)), .bl (decide (j = 3)), .bl (decide (j = 4)), .bl (decide (j = 5)), .bl (decide (j = 6))]
theorem toldL_at {j m : Nat} {z : V} (h : (toldL j)[m]? = some z) : z = .bl (decide (j = m)) := by
  unfold toldL at h
  match m, h with
  | 0, h => exact (Option.some.inj h).symm
  | 1, h => exact (Option.some.inj h).symm
  | 2, h => exact (Option.some.inj h).symm
  | 3, h => exact (Option.some.inj h).symm
  | 4, h => exact (Option.some.inj h).symm
  | 5, h => exact (Option.some.inj h).symm
  | 6, h => exact (Option.some.inj h).symm
  | m + 7, h => simp at h
theorem toldL_count {j : Nat} (h : j < 7) : (toldL j).countP (fun z => eqV z (.bl true)) = 1 := by
  have : j = 0 ∨ j = 1 ∨ j = 2 ∨ j = 3 ∨ j = 4 ∨ j = 5 ∨ j = 6 := by omega
  rcases this with rfl | rfl | rfl | rfl | rfl | rfl | rfl <;> rfl
theorem toldL_hit {j : Nat} (h : j < 7) : ∃ z, (toldL j)[j]? = some z ∧ eqV z (.bl true) = true := by
  have hl : j < (toldL j).length := h
  refine ⟨(toldL j)[j], List.getElem?_eq_getElem hl, ?_⟩
  rw [toldL_at (List.getElem?_eq_getElem hl), decide_eq_true rfl]; rfl
theorem toldL_no {j m : Nat} {z : V} (h : m < j) (hz : (toldL j)[m]? = some z) : eqV z (.bl true) = false := by
  rw [toldL_at hz, decide_eq_false (show ¬ j = m by omega)]; rfl
theorem words_at {j : Nat} {w : Str} (h : theWords[j]? = some w) : atI (theWords.map V.str) (j : Int) = some (.str w) := atI_nat (by rw [List.getElem?_map, h]; rfl)
end RF
set_option linter.all false
namespace RF
open PySem L2
end RF
set_option linter.all false
namespace RF
open PySem L2
end RF
set_option linter.all false
namespace RF
open PySem L2 PyProof.Rows
end RF
set_option linter.all false
namespace RF
open PySem L2
end RF
set_option linter.all false
namespace L2
open PySem
section
variable {K : PySem.W.Frag} {g : TG} {te : TE} {σ0 : St} {H1 : Hp} {Q : VK}
theorem comp_LJ {a : Addr} {xs : List V} (hq : SqL K H1 a xs) (hl : xs.length < sizeLine) (J : Addr → Nat → List V → Hp → Prop) (j0 : ∀ D, H1 D = none → J D 0 [] (upd H1 D (.lst [])))
    (step : ∀ D i x ys H', xs[i]? = some x → H1 D = none → Same H1 H' → H' D = some (.lst ys) → J D i ys H' → ∀ Q' : VK, (∀ v H3, Same H' H3 → J D (i + 1) (ys ++ [v]) (upd H3 D (.lst (ys ++ [v]))) → Q' v H3) → g x σ0 H' fun σ2 H2 => te σ2 H2 Q')
    (fin : ∀ D ys H', H1 D = none → Same H1 H' → H' D = some (.lst ys) → J D xs.length ys H' → Q (.ref D) H') : compW (Itl K a) g te σ0 Q H1 := by
  intro D hD
  refine ⟨fun i m ys H' => i ≤ xs.length ∧ m = xs.length - i ∧ ys.length = i ∧ Same H1 H' ∧ H' D = some (.lst ys) ∧ J D i ys H', ⟨_, Nat.zero_le _, rfl, rfl, Same.new hD, upd_same, j0 D hD⟩, ?_⟩
  rintro i m ys H' ⟨hi, rfl, hy, S, e, hj⟩
  refine ⟨e, by omega, ?_⟩
  by_cases hlt : i < xs.length
  · have hx := List.getElem?_eq_getElem hlt
    refine .inr ⟨⟨xs, _, S.knd (k := .L) hq, hx⟩, fun x H'' hy' => ?_⟩
    obtain ⟨rfl, hy'⟩ := hy'
    have hx := hy' xs (S.knd (k := .L) hq)
    exact step D i x ys _ hx hD S e hj _ fun v H3 S3 hj' => ⟨S3 _ _ e, xs.length - (i + 1), by omega, hlt, rfl, by rw [List.length_append, hy]; rfl, (S.trans S3).upd hD, upd_same, hj'⟩
  · have ei : i = xs.length := by omega
    subst ei
    exact .inl ⟨⟨xs, S.knd (k := .L) hq, Nat.le_refl _⟩, fin D ys H' hD S e hj⟩
end
end L2
namespace L2
end L2
namespace RF
open PySem L2
inductive Figs (H : Hp) : List Addr → List (List Int) → Prop where
  | nil : Figs H [] []
  | cons {a : Addr} {f : List Int} {as : List Addr} {fs : List (List Int)} : H a = some (.lst (f.map V.int)) → Figs H as fs → Figs H (a :: as) (f :: fs)
theorem Figs.up {H H' : Hp} (S : Same H H') : ∀ {as fs}, Figs H as fs → Figs H' as fs
  | _, _, .nil => .nil
  | _, _, .cons h r => .cons (S _ _ h) (r.up S)
theorem Figs.but {H H' : Hp} {D : Addr} (S : ∀ b o, b ≠ D → H b = some o → H' b = some o) : ∀ {as fs}, Figs H as fs → D ∉ as → Figs H' as fs
  | _, _, .nil, _ => .nil
  | _, _, .cons h r, n => .cons (S _ _ (fun e => n (by rw [e]; exact List.mem_cons_self)) h) (r.but S fun m => n (List.mem_cons_of_mem _ m))
theorem Figs.append {H : Hp} : ∀ {as fs bs gs}, Figs H as fs → Figs H bs gs → Figs H (as ++ bs) (fs ++ gs)
  | _, _, _, _, .nil, h => h
  | _, _, _, _, .cons h r, h' => .cons h (r.append h')
theorem Figs.len {H : Hp} : ∀ {as fs}, Figs H as fs → as.length = fs.length
  | _, _, .nil => rfl
  | _, _, .cons _ r => congrArg (· + 1) r.len
theorem Figs.get {H : Hp} : ∀ {as fs} {i : Nat} {a : Addr}, Figs H as fs → as[i]? = some a → ∃ f, fs[i]? = some f ∧ H a = some (.lst (f.map V.int))
  | _, _, 0, _, .cons h _, e => by cases e; exact ⟨_, rfl, h⟩
  | _, _, _ + 1, _, .cons _ r, e => r.get (by simpa using e)
  | _, _, _, _, .nil, e => by simp at e
theorem Figs.set {H : Hp} {b : Addr} {g : List Int} (hb : H b = some (.lst (g.map V.int))) : ∀ {as fs} (i : Nat), Figs H as fs → Figs H (as.set i b) (fs.set i g)
  | _, _, _, .nil => .nil
  | _, _, 0, .cons _ r => .cons hb r
  | _, _, i + 1, .cons h r => .cons h (r.set hb i)
theorem refs_at {as : List Addr} {i : Nat} {x : V} (h : (as.map V.ref)[i]? = some x) : ∃ a, as[i]? = some a ∧ x = .ref a := by
  rw [List.getElem?_map] at h
  cases hi : as[i]? with
  | none => rw [hi] at h; cases h
  | some d => rw [hi] at h; cases h; exact ⟨d, rfl, rfl⟩
theorem map_set_refs {as : List Addr} {j : Nat} {b : Addr} : (as.map V.ref).set j (.ref b) = (as.set j b).map V.ref := by rw [List.map_set]
noncomputable def intsOf (xs : List V) : List Int := xs.filterMap fun x => match x with | .int n => some n | _ => none
theorem intsOf_map (ns : List Int) : intsOf (ns.map V.int) = ns := by
  induction ns with
  | nil => rfl
  | cons n r ih =>
    show n :: intsOf (r.map V.int) = n :: r
    rw [ih]
noncomputable def figA (H : Hp) : V → List Int
  | .ref a => match H a with | some (.lst xs) => intsOf xs | _ => []
  | _ => []
theorem figA_of {H : Hp} {a : Addr} {f : List Int} (h : H a = some (.lst (f.map V.int))) : figA H (.ref a) = f := by
  show (match H a with | some (.lst xs) => intsOf xs | _ => []) = f
  rw [h]; exact intsOf_map f
theorem Figs.nums {H : Hp} {kept spare : List Int} (g : GoodBase kept spare) : ∀ {as fs} {ns : List Int}, Figs H as fs → fs = ns.map (rests (kept ++ spare)) → (∀ n ∈ ns, Fits kept n) → (as.map V.ref).map (fun x => numV kept spare (figA H x)) = ns.map V.int
  | _, _, [], .nil, _, _ => rfl
  | _, _, n :: r, .cons h t, e, hf => by
    rw [List.map_cons] at e
    injection e with e1 e2
    rw [List.map_cons, List.map_cons, List.map_cons, t.nums g e2 fun m hm => hf m (List.mem_cons_of_mem _ hm), figA_of h, numV_right g ⟨e1, hf n List.mem_cons_self⟩]
  | _, _, [], .cons _ _, e, _ => by cases e
  | _, _, _ :: _, .nil, e, _ => by cases e
noncomputable def dot (xs ys : List Int) : Int := (List.zipWith (· * ·) xs ys).sum
noncomputable def RowW (kept spare ns : List Int) (fs : List (List Int)) (w : Str) : Prop := fs.length = ns.length ∧ (∀ n ∈ ns, Fits kept n) ∧
  ((w = "" ∧ fs = ns.map (rests (kept ++ spare))) ∨ (w = "figure" ∧ ∃ f ∈ fs, ¬ Valid (kept ++ spare) f) ∨ (w = "wrong" ∧ (∀ f ∈ fs, Valid (kept ++ spare) f) ∧ ∃ f ∈ fs, WrongF kept spare f))
noncomputable def RowAt (H : Hp) (b : V) (as : List Addr) (fs : List (List Int)) : Prop := ∃ l, b = .ref l ∧ H l = some (.lst (as.map V.ref)) ∧ Figs H as fs
inductive isp_refsL (cB : Addr) (a b : V) (H : Hp) (Q : VK) (E : XK) : Prop
  | mk (kept spare : List Int) (as : List Addr) (fs : List (List Int)) (h0 : Bas H a kept spare) (h1 : RowAt H b as fs) (q : ((∀ f ∈ fs, Valid (kept ++ spare) f) → ∀ H', Same H H' → Q .non H') ∧ ((∃ f ∈ fs, ¬ Valid (kept ++ spare) f) → ∀ H', Same H H' → E (.ref cB) none H')) : isp_refsL cB a b H Q E
noncomputable def sp_refsL (cB : Addr) : Sp := Sp2 (isp_refsL cB)
inductive isp_numsL (cB cW : Addr) (a b : V) (H : Hp) (Q : VK) (E : XK) : Prop
  | mk (kept spare : List Int) (as : List Addr) (fs : List (List Int)) (h0 : Bas H a kept spare) (h1 : RowAt H b as fs) (h2 : as.length < sizeLine) (q : ((∃ ns : List Int, fs = ns.map (rests (kept ++ spare)) ∧ (∀ n ∈ ns, Fits kept n) ∧ ∀ p H', Same H H' → H p = none → H' p = some (.lst (ns.map V.int)) → Q (.ref p) H') ∨ ((∃ f ∈ fs, ¬ Valid (kept ++ spare) f) ∧ ∀ H', Same H H' → E (.ref cB) none H') ∨ ((∀ f ∈ fs, Valid (kept ++ spare) f) ∧ (∃ f ∈ fs, WrongF kept spare f) ∧ ∀ H', Same H H' → E (.ref cW) none H'))) : isp_numsL cB cW a b H Q E
noncomputable def sp_numsL (cB cW : Addr) : Sp := Sp2 (isp_numsL cB cW)
theorem Figs.back {H : Hp} : ∀ {as fs} {f : List Int}, Figs H as fs → f ∈ fs → ∃ a ∈ as, H a = some (.lst (f.map V.int))
  | _, _, _, .nil, h => nomatch h
  | _, _, _, .cons h r, hf => by
    rcases List.mem_cons.mp hf with rfl | z
    · exact ⟨_, List.mem_cons_self, h⟩
    · obtain ⟨a, ha, e⟩ := r.back z
      exact ⟨a, List.mem_cons_of_mem _ ha, e⟩
theorem figs_snoc {H' H3 : Hp} {D c : Addr} {as : List Addr} {fs : List (List Int)} {f : List Int} {xs : List V} (F : Figs H' as fs) (nD : D ∉ as) (S3 : Same H' H3) (hc : H3 c = some (.lst (f.map V.int))) (cD : c ≠ D) : Figs (upd H3 D (.lst xs)) (as ++ [c]) (fs ++ [f]) ∧ D ∉ as ++ [c] := by
  refine ⟨((F.up S3).but (fun b o hb h => by rw [upd_ne hb]; exact h) nD).append (.cons (by rw [upd_ne cD]; exact hc) .nil), fun h => ?_⟩
  rcases List.mem_append.mp h with z | z
  · exact nD z
  · exact cD (List.mem_singleton.mp z).symm
noncomputable def JF (fs : List (List Int)) (D : Addr) (i : Nat) (ys : List V) (H' : Hp) : Prop := ∃ as : List Addr, ys = as.map V.ref ∧ Figs H' as (fs.take i) ∧ D ∉ as
theorem JF.zero {fs : List (List Int)} {D : Addr} {H' : Hp} : JF fs D 0 [] H' := ⟨[], rfl, .nil, fun h => nomatch h⟩
theorem JF.next {fs : List (List Int)} {f : List Int} {D c : Addr} {i : Nat} {ys : List V} {H' H3 : Hp} (h : JF fs D i ys H') (hf : fs[i]? = some f) (S3 : Same H' H3) (hc : H3 c = some (.lst (f.map V.int))) (cD : c ≠ D) : JF fs D (i + 1) (ys ++ [.ref c]) (upd H3 D (.lst (ys ++ [.ref c]))) := by
  obtain ⟨as, rfl, F, nD⟩ := h
  obtain ⟨a, b⟩ := figs_snoc (xs := as.map V.ref ++ [.ref c]) F nD S3 hc cD
  exact ⟨as ++ [c], by rw [List.map_append]; rfl, by rw [List.take_add_one, hf]; exact a, b⟩
theorem rows_due {kept spare ns ms : List Int} {fs gs : List (List Int)} {w1 w2 : Str} (g : GoodBase kept spare) (R1 : RowW kept spare ns fs w1) (R2 : RowW kept spare ms gs w2) :
    (("figure" : Str) ∈ [w1, w2] ∧ ∃ f ∈ fs ++ gs, ¬ Valid (kept ++ spare) f) ∨ (("figure" : Str) ∉ [w1, w2] ∧ ("wrong" : Str) ∈ [w1, w2] ∧ (∀ f ∈ fs ++ gs, Valid (kept ++ spare) f) ∧ ∃ f ∈ fs ++ gs, WrongF kept spare f) ∨
    (("figure" : Str) ∉ [w1, w2] ∧ ("wrong" : Str) ∉ [w1, w2] ∧ fs = ns.map (rests (kept ++ spare)) ∧ gs = ms.map (rests (kept ++ spare))) := by
  have d1 : ("figure" : Str) ≠ "" := by decide
  have d2 : ("wrong" : Str) ≠ "" := by decide
  have d3 : ("figure" : Str) ≠ "wrong" := by decide
  have vr : ∀ {ns : List Int} {fs : List (List Int)}, fs = ns.map (rests (kept ++ spare)) → ∀ f ∈ fs, Valid (kept ++ spare) f := fun {ns fs} e f hf => by
    rw [e] at hf
    obtain ⟨n, _, rfl⟩ := List.mem_map.mp hf
    exact rests_valid (fun d hd => (g.rng d hd).1) n
  have both : ∀ {A B : List (List Int)}, (∀ f ∈ A, Valid (kept ++ spare) f) → (∀ f ∈ B, Valid (kept ++ spare) f) → ∀ f ∈ A ++ B, Valid (kept ++ spare) f := fun a b f hf => (List.mem_append.mp hf).elim (a f) (b f)
  have inl : ∀ {P : List Int → Prop}, (∃ f ∈ fs, P f) → ∃ f ∈ fs ++ gs, P f := fun ⟨f, h, p⟩ => ⟨f, List.mem_append_left _ h, p⟩
  have inr : ∀ {P : List Int → Prop}, (∃ f ∈ gs, P f) → ∃ f ∈ fs ++ gs, P f := fun ⟨f, h, p⟩ => ⟨f, List.mem_append_right _ h, p⟩
  rcases R1.2.2 with ⟨h1, g1⟩ | ⟨h1, g1⟩ | ⟨h1, v1, g1⟩ <;> rcases R2.2.2 with ⟨h2, g2⟩ | ⟨h2, g2⟩ | ⟨h2, v2, g2⟩ <;> subst h1 h2
  · exact .inr (.inr ⟨by simp [d1], by simp [d2], g1, g2⟩)
  · exact .inl ⟨by simp, inr g2⟩
  · exact .inr (.inl ⟨by simp [d1, d3], by simp, both (vr g1) v2, inr g2⟩)
  · exact .inl ⟨by simp, inl g1⟩
  · exact .inl ⟨by simp, inl g1⟩
  · exact .inl ⟨by simp, inl g1⟩
  · exact .inr (.inl ⟨by simp [d1, d3], by simp, both v1 (vr g2), inl g1⟩)
  · exact .inl ⟨by simp, inr g2⟩
  · exact .inr (.inl ⟨by simp [d3], by simp, both v1 v2, inl g1⟩)
inductive isp_dot (a b : V) (H : Hp) (Q : VK) (E : XK) : Prop
  | mk (p q : Addr) (xs ys : List Int) (h0 : a = .ref p) (h1 : b = .ref q) (h2 : H p = some (.lst (xs.map V.int))) (h3 : H q = some (.lst (ys.map V.int))) (h4 : xs.length = ys.length) (h5 : xs.length ≤ 200) (h6 : (∀ x ∈ xs, -(2 ^ 250) < x ∧ x < 2 ^ 250)) (h7 : (∀ x ∈ ys, -(2 ^ 250) < x ∧ x < 2 ^ 250)) (q : ∀ H', Same H H' → Q (.int (dot xs ys)) H') : isp_dot a b H Q E
noncomputable def sp_dot : Sp := Sp2 (isp_dot)
theorem dot_range {xs ys : List Int} (h : xs.length = ys.length) : (List.range xs.length).map (fun i => V.int (xs.getD i 0 * ys.getD i 0)) = (List.zipWith (· * ·) xs ys).map V.int := by
  apply List.ext_getElem
  · simp [h]
  · intro i h1 h2
    have hx : i < xs.length := by simpa using h1
    have hy : i < ys.length := by omega
    simp [List.getD_eq_getElem?_getD, List.getElem?_eq_getElem hx, List.getElem?_eq_getElem hy]
theorem RowW.spoil {kept spare ns : List Int} (g : GoodBase kept spare) (hf : ∀ n ∈ ns, Fits kept n) {i : Nat} {n : Int} (hi : ns[i]? = some n) {f : List Int} {w : Str} (h : FigW kept spare n f w) : RowW kept spare ns ((ns.map (rests (kept ++ spare))).set i f) w := by
  have hl := (List.getElem?_eq_some_iff.mp hi).1
  have hl' : i < (ns.map (rests (kept ++ spare))).length := by rw [List.length_map]; exact hl
  have h2 : ∀ d ∈ kept ++ spare, 2 ≤ d := fun d hd => (g.rng d hd).1
  have hm : f ∈ (ns.map (rests (kept ++ spare))).set i f := List.mem_iff_getElem?.mpr ⟨i, List.getElem?_set_self hl'⟩
  refine ⟨by rw [List.length_set, List.length_map], hf, ?_⟩
  rcases h with ⟨hw, e⟩ | ⟨hw, e⟩ | ⟨hw, e⟩
  · refine .inl ⟨hw, ?_⟩
    rw [e]
    have : (ns.map (rests (kept ++ spare)))[i]? = some (rests (kept ++ spare) n) := by rw [List.getElem?_map, hi]; rfl
    rw [List.getElem?_eq_getElem hl'] at this
    have := Option.some.inj this
    rw [← this, List.set_getElem_self]
  · exact .inr (.inl ⟨hw, f, hm, e⟩)
  · refine .inr (.inr ⟨hw, fun x hx => ?_, f, hm, e⟩)
    rcases List.mem_or_eq_of_mem_set hx with z | rfl
    · obtain ⟨m, _, rfl⟩ := List.mem_map.mp z
      exact rests_valid h2 m
    · exact e.1
theorem ixN_of {n : Nat} {i : Int} (h0 : 0 ≤ i) (h1 : i < (n : Int)) : ixN n i = some i.toNat := by unfold ixN; rw [if_pos h0, if_pos h1]
end RF
set_option linter.all false
namespace RF
open PySem L2
inductive SD (H : Hp) : Nat → V → V → Prop
  | int (n : Nat) (x : Int) : SD H (n + 1) (.int x) (.int x)
  | lst {n : Nat} {l1 l2 : Addr} {xs ys : List V} (e1 : H l1 = some (.lst xs)) (e2 : H l2 = some (.lst ys)) (hl : xs.length = ys.length) (h100 : xs.length ≤ 100) (h : ∀ (i : Nat) (x y : V), xs[i]? = some x → ys[i]? = some y → SD H n x y) : SD H (n + 1) (.ref l1) (.ref l2)
  | tup {n : Nat} {l1 l2 : Addr} {xs ys : List V} (e1 : H l1 = some (.tup xs)) (e2 : H l2 = some (.tup ys)) (hl : xs.length = ys.length) (h100 : xs.length ≤ 100) (h : ∀ (i : Nat) (x y : V), xs[i]? = some x → ys[i]? = some y → SD H n x y) : SD H (n + 1) (.ref l1) (.ref l2)
theorem SD.up {H H' : Hp} {n : Nat} {a b : V} (h : SD H n a b) (S : Same H H') : SD H' n a b := by
  induction h with
  | int n x => exact .int n x
  | lst e1 e2 hl h100 _ ih => exact .lst (S _ _ e1) (S _ _ e2) hl h100 ih
  | tup e1 e2 hl h100 _ ih => exact .tup (S _ _ e1) (S _ _ e2) hl h100 ih
inductive isp_sameN (n : Nat) (a b : V) (H : Hp) (Q : VK) (E : XK) : Prop
  | mk (h : SD H n a b) (q : ∀ H', Same H H' → Q (.bl true) H') : isp_sameN n a b H Q E
noncomputable def sp_sameN (n : Nat) : Sp := Sp2 (isp_sameN n)
theorem sd_ints {n : Nat} {H : Hp} {ns : List Int} (i : Nat) (x y : V) (hx : (ns.map V.int)[i]? = some x) (hy : (ns.map V.int)[i]? = some y) : SD H (n + 1) x y := by
  obtain ⟨d, _, rfl⟩ := ints_at hx
  rw [hx] at hy
  cases hy
  exact .int n d
end RF
set_option Elab.async false
set_option linter.all false
set_option maxRecDepth 100000
set_option maxHeartbeats 4000000
namespace K16
open PySem L2 RF
seal L2.PE L2.PA L2.PS L2.PSs L2.PT L2.PG L2.PI L2.PK L2.PO L2.PEx L2.PSx L2.PSxs L2.PH L2.PW L2.PGs L2.PSet L2.OpR L2.CallR L2.SlR L2.IxR
noncomputable def top (i : Nat) : Stmt := PySem.Challenge.pw_restfigures_k16_products_of_tables.main.body.getD i (.Pass ⟨0, 0, 0, 0⟩)
structure Txt (K : PySem.W.Frag) (mg : Str → Option Value) (cR cT cB cW cD cP cA cU : Addr) : Prop where
  len : mg "len" = none
  isinstance : mg "isinstance" = none
  sorted : mg "sorted" = none
  list : mg "list" = none
  tuple : mg "tuple" = none
  int : mg "int" = none
  bool : mg "bool" = none
  zip : mg "zip" = none
  all : mg "all" = none
  min : mg "min" = none
  max : mg "max" = none
  any : mg "any" = none
  range : mg "range" = none
  enumerate : mg "enumerate" = none
  sum : mg "sum" = none
  ValueError : mg "ValueError" = none
  RestError : mg "RestError" = some (.ref cR)
  TooGreat : mg "TooGreat" = some (.ref cT)
  x_TooGreat : PySem.W.excIn K cT bmV "ValueError.__new__" = true
  BadFigure : mg "BadFigure" = some (.ref cB)
  x_BadFigure : PySem.W.excIn K cB bmV "ValueError.__new__" = true
  Wrong : mg "Wrong" = some (.ref cW)
  x_Wrong : PySem.W.excIn K cW bmV "ValueError.__new__" = true
  BadDivisor : mg "BadDivisor" = some (.ref cD)
  BadPlace : mg "BadPlace" = some (.ref cP)
  BadBase : mg "BadBase" = some (.ref cA)
  Unlike : mg "Unlike" = some (.ref cU)
  x_Unlike : PySem.W.excIn K cU bmV "ValueError.__new__" = true
section
variable {P : Program} {w : World} {K : PySem.W.Frag} {mg : Str → Option Value} {base : Heap} {cR cT cB cW cD cP cA cU : Addr}
noncomputable abbrev s__law_mixed : Stmt := top 36
theorem sc__law_mixed : FnScope ["_law_number", "_law_k", "_law_once"] ["_law_number", "_law_k"] (defScope s__law_mixed) := ⟨rfl, rfl, rfl, by decide +kernel, rfl, by decide +kernel, by decide +kernel⟩
theorem b__law_mixed : BindsAll "_law_mixed" s__law_mixed ["_law_number", "_law_k"] := binds2 fun _ _ _ _ _ _ _ _ => rfl
theorem ok_mixed (D : Def K mg "_law_mixed" s__law_mixed) : FnS P w K mg base "_law_mixed" ["_law_number", "_law_k"] 1 sp_mixed := by
  refine D.ok sc__law_mixed b__law_mixed sp2_len fun f cdv A outer s H vs Q E hr h => ?_
  obtain ⟨_, _, rfl, n, j, rfl, rfl, h0, h1, k⟩ := h
  refine ⟨_, (pss_cons (ps_set (i := 2) sc__law_mixed.nd rfl (Or.inl rfl) (pe_op op_mod (pe_op op_mul (pe_op op_add (pe_op op_add (pe_op op_mod (pv 0) pe_int) (pe_op op_mul pe_int (pv 1))) pe_int) pe_int) pe_int))
      (pss_one (ps_ret (pe_op op_mod (pe_op op_mul (pv 2) (pe_op op_add (pe_op op_add (pe_op op_mod (pv 2) pe_int) (pv 1)) pe_int)) pe_int)))), ?_⟩
  try (set_option simprocs false in dsimp only [cxOf])
  refine ⟨_, rfl, _, _, rfl, rfl, (by show (0 : Int) < 1000000007; decide), _, rfl, _, _, rfl, rfl, .inl ⟨by decide, by decide⟩, _, _, rfl, rfl, _, _, rfl, rfl, _, _, rfl, rfl, .inr ⟨by decide, by decide⟩, _, _, rfl, rfl, (by show (0 : Int) < 2147483647; decide), ?_⟩
  refine ⟨_, rfl, _, rfl, _, _, rfl, rfl, (by show (0 : Int) < 1009; decide), _, rfl, _, _, rfl, rfl, _, _, rfl, rfl, _, _, rfl, rfl, .inl ⟨by show -(2 ^ 64) < (n % 1000000007 + 7 * j + 1) * 48271 % 2147483647; omega, by show (n % 1000000007 + 7 * j + 1) * 48271 % 2147483647 < 2 ^ 64; omega⟩, _, _, rfl, rfl, (by show (0 : Int) < 998244353; decide), ?_⟩
  exact k _ (Int.emod_nonneg _ (by decide)) (Int.emod_lt_of_pos _ (by decide))
noncomputable abbrev s__law_base_by : Stmt := top 37
theorem sc__law_base_by : FnScope ["_law_number", "_law_some", "_law_many", "_law_more", "_law_at", "_law_first", "_law_last"] ["_law_number"] (defScope s__law_base_by) := ⟨rfl, rfl, rfl, by decide +kernel, rfl, by decide +kernel, by decide +kernel⟩
theorem b__law_base_by : BindsAll "_law_base_by" s__law_base_by ["_law_number"] := binds1 fun _ _ _ _ _ _ _ => rfl
theorem ok_base_by (D : Def K mg "_law_base_by" s__law_base_by) (T : Txt K mg cR cT cB cW cD cP cA cU) (F__law_mixed : FnS P w K mg base "_law_mixed" ["_law_number", "_law_k"] 1 sp_mixed) : FnS P w K mg base "_law_base_by" ["_law_number"] 2 sp_base_by := by
  refine D.ok sc__law_base_by b__law_base_by sp1_len fun f cdv A outer s H vs Q E hr h => ?_
  obtain ⟨_, rfl, n, rfl, k⟩ := h
  refine ⟨_, (pss_cons (ps_set (i := 1) sc__law_base_by.nd rfl (Or.inl rfl) (pe_lst (ac (pe_ix ix0L (pe_lst (ac pe_int (ac pe_int (ac pe_int (ac pe_int pa_nil))))) (pe_op op_mod (pv 0) pe_int) (fun _ _ => rfl)) (ac (pe_ix ix0L (pe_lst (ac pe_int (ac pe_int (ac pe_int pa_nil)))) (pe_op op_mod (pe_op op_fdiv (pv 0) pe_int) pe_int) (fun _ _ => rfl)) (ac (pe_ix ix0L (pe_lst (ac pe_int (ac pe_int (ac pe_int pa_nil)))) (pe_op op_mod (pe_op op_fdiv (pv 0) pe_int) pe_int) (fun _ _ => rfl)) pa_nil)))))
      (pss_cons (ps_set (i := 1) sc__law_base_by.nd rfl (Or.inl rfl) (cBi call_sorted (by rfl) T.sorted PyProof.Rows.Boot.«sorted» (ac (pe_op op0catS (pv 1) (pe_lst (ac pe_int (ac pe_int (ac pe_int (ac pe_int (ac pe_int (ac pe_int (ac pe_int (ac pe_int (ac pe_int (ac pe_int (ac pe_int pa_nil))))))))))))) pa_nil)))
      (pss_cons (ps_set (i := 2) sc__law_base_by.nd rfl (Or.inl rfl) (pe_op op_add pe_int (pe_op op_mod (pe_op op_fdiv (pv 0) pe_int) pe_int)))
      (pss_cons (ps_set (i := 3) sc__law_base_by.nd rfl (Or.inl rfl) (cFn F__law_mixed hr passes0 (ac (pv 0) (ac pe_int pa_nil))))
      (pss_cons (ps_while own_pass (pt_cmpR op_gt (cBi call0len (by rfl) T.len PyProof.Rows.Boot.«len» (ac (pv 1) pa_nil)) (pe_op op_add (pv 2) (pe_op op_mod (pe_op op_fdiv (pv 0) pe_int) pe_int)) (nomark _))
        (pss_cons (ps_expr (pe_bm PySem.F.plainAttrs_list PySem.F.slot_list_pop PySem.F.type_list_pop mt_popAt (pv 1) (ac (pe_op op_mod (pv 3) (cBi call0len (by rfl) T.len PyProof.Rows.Boot.«len» (ac (pv 1) pa_nil))) pa_nil)))
        (pss_one (ps_set (i := 3) sc__law_base_by.nd rfl (Or.inl rfl) (cFn F__law_mixed hr passes0 (ac (pv 3) (ac pe_int pa_nil)))))))
      (pss_cons (ps_set (i := 4) sc__law_base_by.nd rfl (Or.inl rfl) (pe_op op_mod (pe_op op_fdiv (pv 3) pe_int) (pv 2)))
      (pss_cons (ps_set (i := 5) sc__law_base_by.nd rfl (Or.inl rfl) (pe_slice sl0L (pv 1) po_none (po_some (pv 2))))
      (pss_cons (ps_set (i := 6) sc__law_base_by.nd rfl (Or.inl rfl) (pe_slice sl0L (pv 1) (po_some (pv 2)) po_none))
      (pss_cons (ps_if (pt_cmpR op_eq (pe_op op_mod (pv 3) pe_int) pe_int (nomark _))
        (pss_one (ps_expr (pe_bm0 PySem.F.plainAttrs_list PySem.F.slot_list_reverse PySem.F.type_list_reverse mt_reverse (pv 6))))
        pss_nil)
      (pss_one (ps_ret (pe_tup (ac (cTy call_tuple_of (by rfl) T.tuple PyProof.Rows.Boot.«tuple» (ac (pe_op op0catS (pe_slice sl0L (pv 5) (po_some (pv 4)) po_none) (pe_slice sl0L (pv 5) po_none (po_some (pv 4)))) pa_nil)) (ac (cTy call_tuple_of (by rfl) T.tuple PyProof.Rows.Boot.«tuple» (ac (pv 6) pa_nil)) pa_nil)))))))))))))), ?_⟩
  try (set_option simprocs false in dsimp only [cxOf])
  refine ⟨by decide, fun p1 h1 => ⟨_, rfl, _, _, rfl, rfl, (by show (0 : Int) < 4; decide), p1, _, _, _, rfl, rfl, SqL.of upd_same, atI_mod (ns := [2, 4, 8, 64]) n rfl (by decide), ?_⟩⟩
  refine ⟨by decide, fun p2 h2 => ⟨_, rfl, _, _, rfl, rfl, ⟨by decide, by decide⟩, _, _, rfl, rfl, (by show (0 : Int) < 3; decide), p2, _, _, _, rfl, rfl, SqL.of upd_same, atI_mod (ns := [3, 9, 27]) (n / 4) rfl (by decide), ?_⟩⟩
  refine ⟨by decide, fun p3 h3 => ⟨_, rfl, _, _, rfl, rfl, ⟨by decide, by decide⟩, _, _, rfl, rfl, (by show (0 : Int) < 3; decide), p3, _, _, _, rfl, rfl, SqL.of upd_same, atI_mod (ns := [5, 25, 625]) (n / 12) rfl (by decide), ?_⟩⟩
  refine ⟨(by show 3 ≤ sizeLine; decide), fun p4 h4 => ?_⟩
  refine ⟨_, rfl, by decide, fun p5 h5 => ⟨p4, p5, _, _, rfl, rfl, SqL.of (by rw [upd_ne (by rintro rfl; rw [upd_same] at h5; cases h5)]; exact upd_same), SqL.of upd_same, (by show 3 + 11 ≤ sizeLine; decide), fun p6 h6 => ?_⟩⟩
  refine ⟨p6, rawSome n, rfl, SqL.of upd_same, (by show 14 < 64; decide), fun l L h7 hp hs => ?_⟩
  obtain ⟨l2, lc, lr, l14⟩ := sorted_ok hp hs
  have hl0 : H l = none := ((((((Same.new h1).trans (Same.new h2)).trans (Same.new h3)).trans (Same.new h4)).trans (Same.new h5)).trans (Same.new h6)).free h7
  have S2 := ((((((Same.new h1).trans (Same.new h2)).trans (Same.new h3)).trans (Same.new h4)).trans (Same.new h5)).trans (Same.new h6)).trans (Same.new (o := .lst (L.map V.int)) h7)
  revert S2
  generalize hG : upd _ l _ = G
  intro S2
  have hGl : G l = some (.lst (L.map V.int)) := by rw [← hG]; exact upd_same
  clear hG h1 h2 h3 h4 h5 h6 h7
  refine ⟨_, rfl, _, _, rfl, rfl, ⟨by decide, by decide⟩, _, _, rfl, rfl, (by show (0 : Int) < 6; decide), _, _, rfl, rfl, ?_⟩
  obtain ⟨M, hM⟩ : ∃ M : Int, M = 1 + n / 36 % 6 := ⟨_, rfl⟩
  have m1 : 1 ≤ M := hM ▸ (many6 (n / 36)).1
  have m2 : M ≤ 6 := hM ▸ (many6 (n / 36)).2
  refine ⟨_, rfl, _, _, rfl, n, 1, rfl, rfl, by decide, by decide, fun mo mo0 _ => ?_⟩
  refine ⟨fun m σ H' => ∃ (ns : List Int) (mo : Int), σ = [some (.int n), some (.ref l), some (.int M), some (.int mo), none, none, none] ∧ H' l = some (.lst (ns.map V.int)) ∧ Same H H' ∧ ns.Sublist L ∧ M + n / 216 % 5 ≤ ns.length ∧ 0 ≤ mo ∧ m = ns.length,
    ⟨_, L, mo, by rw [hM]; rfl, hGl, S2, List.Sublist.refl L, by rw [l14]; exact le14 m2 _, mo0, rfl⟩, ?_⟩
  · rintro m σ H3 ⟨ns, mo, rfl, hH3, S3, sub, hlen, mo0, rfl⟩
    have hn14 : ns.length ≤ 14 := by rw [← l14]; exact sub.length_le
    refine ⟨_, rfl, l, _, rfl, .inl (SqL.of hH3), _, rfl, _, rfl, _, _, rfl, rfl, ⟨by decide, by decide⟩, _, _, rfl, rfl, (by show (0 : Int) < 5; decide), _, _, rfl, rfl, _, _, rfl, rfl, _, rfl, ?_⟩
    rw [List.length_map]
    by_cases hgt : M + n / 216 % 5 < (ns.length : Int)
    · rw [decide_eq_true hgt]
      refine iteT ⟨_, fun _ _ h => h, ?_⟩
      have hpos := pos_len m1 hgt
      have hmod0 := md0 mo hpos
      have hmod1 := md1 mo hpos
      have hlt := toNat_lt hmod0 hmod1
      have hget : (ns.map V.int)[(mo % (ns.length : Int)).toNat]? = some (.int (ns.getD (mo % (ns.length : Int)).toNat 0)) := by
        rw [List.getElem?_map, List.getElem?_eq_getElem hlt]
        simp [hlt]
      refine ⟨_, rfl, .inl ⟨rfl, _, SqL.of hH3⟩, _, rfl, _, rfl, l, _, rfl, .inl (SqL.of hH3), _, _, rfl, rfl, (by show (0 : Int) < ((ns.map V.int).length : Int); rw [List.length_map]; exact hpos), ?_⟩
      rw [List.length_map]
      refine ⟨l, _, _, _, _, rfl, rfl, hH3, (big_ix hmod0 hmod1 hn14).1, (big_ix hmod0 hmod1 hn14).2, by rw [List.length_map]; exact sq_idx hmod0 hmod1, hget, ?_⟩
      refine ⟨_, rfl, _, _, rfl, mo, 2, rfl, rfl, by decide, by decide, fun mo' mo0' _ => ?_⟩
      have he : (ns.map V.int).eraseIdx (mo % (ns.length : Int)).toNat = (ns.eraseIdx (mo % (ns.length : Int)).toNat).map V.int := map_erase _ _
      have hle : (ns.eraseIdx (mo % (ns.length : Int)).toNat).length = ns.length - 1 := List.length_eraseIdx_of_lt hlt
      exact ⟨_, by rw [hle]; exact sub1 hpos, ns.eraseIdx (mo % (ns.length : Int)).toNat, mo', rfl, by rw [upd_same, he], S3.upd hl0, (List.eraseIdx_sublist _ _).trans sub, by rw [hle]; exact le_sub1 hgt hpos, mo0', rfl⟩
    · rw [decide_eq_false hgt]
      refine iteF ?_
      have hsp : (ns.length : Int) = M + n / 216 % 5 := Int.le_antisymm (Int.not_lt.mp hgt) hlen
      have cn := cut_n m1 m2 hsp
      refine ⟨_, rfl, _, _, rfl, rfl, ⟨by decide, by decide⟩, _, rfl, _, _, rfl, rfl, pos1 m1, ?_⟩
      have a0 := md0 (mo / 2) (pos1 m1)
      refine ⟨_, rfl, _, rfl, _, rfl, l, _, rfl, SqL.of hH3, fun q1 g1 => ?_⟩
      rw [cut_to (nn1 m1)]
      have nq1 : l ≠ q1 := ne_of_none hH3 g1
      refine ⟨_, rfl, _, rfl, _, rfl, l, _, rfl, SqL.of (by rw [upd_ne nq1]; exact hH3), fun q2 g2 => ?_⟩
      rw [cut_from (nn1 m1)]
      have q1q2 : q1 ≠ q2 := by rintro rfl; rw [upd_same] at g2; cases g2
      have S4 : Same H (upd (upd H3 q1 (.lst ((ns.take M.toNat).map V.int))) q2 (.lst ((ns.drop M.toNat).map V.int))) := (S3.trans (Same.new g1)).trans (Same.new g2)
      have hq1 : H q1 = none := S3.free g1
      have hq2 : H q2 = none := (S3.trans (Same.new g1)).free g2
      have good : ∀ rev : Bool, GoodBase ((ns.take M.toNat).drop (mo / 2 % M).toNat ++ (ns.take M.toNat).take (mo / 2 % M).toNat) (if rev then (ns.drop M.toNat).reverse else ns.drop M.toNat) := fun rev =>
        good_cut (fun d hd => l2 d (sub.subset hd)) (lc.sublist sub) (lr.sublist sub) cn.1.1 cn.1.2 cn.2.1 cn.2.2
      have fin : ∀ (rev : Bool) (H5 : Hp), Same H H5 → H5 q1 = some (.lst ((ns.take M.toNat).map V.int)) → H5 q2 = some (.lst ((if rev then (ns.drop M.toNat).reverse else ns.drop M.toNat).map V.int)) →
          (tRet (tTup (tCons (tCB (fun xs H Q => ∃ p ys, xs = [V.ref p] ∧ ((SqL K H p ys ∧ ∀ l, H l = none → Q (V.ref l) (upd H l (.tup ys))) ∨ (SqT K H p ys ∧ Q (V.ref p) H))) (tCons (tOp (rCatS []) (tSl (rSlL []) (tVar 5) (tPart (tVar 4)) tNoPart) (tSl (rSlL []) (tVar 5) tNoPart (tPart (tVar 4)))) tNil)) (tCons (tCB (fun xs H Q => ∃ p ys, xs = [V.ref p] ∧ ((SqL K H p ys ∧ ∀ l, H l = none → Q (V.ref l) (upd H l (.tup ys))) ∨ (SqT K H p ys ∧ Q (V.ref p) H))) (tCons (tVar 6) tNil)) tNil))) { nx := fun _ H' => Q .non H', rt := Q } [some (.int n), some (.ref l), some (.int M), some (.int mo), some (.int (mo / 2 % M)), some (.ref q1), some (.ref q2)] H5) := by
        intro rev H5 S5 e1 e2
        refine ⟨_, rfl, _, rfl, _, rfl, q1, _, rfl, SqL.of e1, fun r1 k1 => ?_⟩
        rw [cut_from a0]
        have n1 : q1 ≠ r1 := ne_of_none e1 k1
        refine ⟨_, rfl, _, rfl, _, rfl, q1, _, rfl, SqL.of (by rw [upd_ne n1]; exact e1), fun r2 k2 => ?_⟩
        rw [cut_to a0]
        have n2 : r1 ≠ r2 := by rintro rfl; rw [upd_same] at k2; cases k2
        refine ⟨r1, r2, _, _, rfl, rfl, SqL.of (by rw [upd_ne n2]; exact upd_same), SqL.of upd_same, ?_, fun r3 k3 => ?_⟩
        · exact take_len ns M.toNat M.toNat _ hn14
        rw [← List.map_append]
        refine ⟨r3, _, rfl, .inl ⟨SqL.of upd_same, fun t1 k4 => ?_⟩⟩
        have S6' := (((Same.new k1).trans (Same.new k2)).trans (Same.new k3)).trans (Same.new (o := .tup (((ns.take M.toNat).drop (mo / 2 % M).toNat ++ (ns.take M.toNat).take (mo / 2 % M).toNat).map V.int)) k4)
        have S6 := S5.trans S6'
        refine ⟨_, rfl, q2, _, rfl, .inl ⟨SqL.of (S6' _ _ e2), fun t2 k5 => ?_⟩⟩
        refine ⟨(by show 2 ≤ sizeLine; decide), fun t k6 => ?_⟩
        have n5 : t1 ≠ t2 := by rintro rfl; rw [upd_same] at k5; cases k5
        have n6 : t2 ≠ t := by rintro rfl; rw [upd_same] at k6; cases k6
        have n7 : t1 ≠ t := by rintro rfl; rw [upd_ne n5, upd_same] at k6; cases k6
        have S7 := (S6.trans (Same.new (o := .tup ((if rev then (ns.drop M.toNat).reverse else ns.drop M.toNat).map V.int)) k5))
        exact k _ _ t _ (good rev) (S7.trans (Same.new k6)) (S7.free k6) ⟨t1, t2, upd_same, by rw [upd_ne n7, upd_ne n5, upd_same], by rw [upd_ne n6, upd_same]⟩
      refine ⟨_, rfl, _, _, rfl, rfl, (by show (0 : Int) < 2; decide), rfl, _, rfl, ?_⟩
      refine ite2 (fun _ => ?_) (fun _ => ?_)
      · refine ⟨_, rfl, .inl ⟨rfl, _, SqL.of upd_same⟩, q2, _, rfl, rfl, upd_same, ?_⟩
        rw [← List.map_reverse]
        exact fin true _ (S4.upd hq2) (by rw [upd_ne q1q2, upd_ne q1q2, upd_same]) upd_same
      · exact fin false _ S4 (by rw [upd_ne q1q2, upd_same]) upd_same
noncomputable abbrev s__law_any_base : Stmt := top 38
theorem sc__law_any_base : FnScope ["_law_number", "_law_some", "_law_many", "_law_at"] ["_law_number"] (defScope s__law_any_base) := ⟨rfl, rfl, rfl, by decide +kernel, rfl, by decide +kernel, by decide +kernel⟩
theorem b__law_any_base : BindsAll "_law_any_base" s__law_any_base ["_law_number"] := binds1 fun _ _ _ _ _ _ _ => rfl
noncomputable def nearL : List Int := [999863, 999883, 999907, 999917, 999931, 999953, 999959, 999961, 999979, 999983]
noncomputable def Ga (H : Hp) (n : Int) (σ : St) (H' : Hp) : Prop := ∃ (l : Addr) (M at' : Int), σ = [some (.int n), some (.ref l), some (.int M), some (.int at')] ∧ Same H H' ∧ H' l = some (.lst (nearL.map V.int)) ∧ 1 ≤ M ∧ M ≤ 6 ∧ 0 ≤ at' ∧ at' < M
theorem ok_any_base (D : Def K mg "_law_any_base" s__law_any_base) (T : Txt K mg cR cT cB cW cD cP cA cU) (F__law_base_by : FnS P w K mg base "_law_base_by" ["_law_number"] 2 sp_base_by) : FnS P w K mg base "_law_any_base" ["_law_number"] 3 sp_base_by := by
  refine D.ok sc__law_any_base b__law_any_base sp1_len fun f cdv A outer s H vs Q E hr h => ?_
  obtain ⟨_, rfl, n, rfl, k⟩ := h
  refine ⟨_, (pss_cons (ps_if (pt_cmpR op_gt (pe_op op_mod (pv 0) pe_int) pe_int (nomark _))
        (pss_one (ps_ret (cFn F__law_base_by hr passes0 (ac (pv 0) pa_nil))))
        pss_nil)
      (pss_cons (ps_set (i := 1) sc__law_any_base.nd rfl (Or.inl rfl) (pe_lst (ac pe_int (ac pe_int (ac pe_int (ac pe_int (ac pe_int (ac pe_int (ac pe_int (ac pe_int (ac pe_int (ac pe_int pa_nil))))))))))))
      (pss_cons (ps_set (i := 2) sc__law_any_base.nd rfl (Or.inl rfl) (pe_op op_add pe_int (pe_op op_mod (pe_op op_fdiv (pv 0) pe_int) pe_int)))
      (pss_cut (Ga H n) (ps_set (i := 3) sc__law_any_base.nd rfl (Or.inl rfl) (pe_op op_mod (pe_op op_fdiv (pv 0) pe_int) (pv 2)))
      (pss_one (ps_ret (pe_tup (ac (cTy call_tuple_of (by rfl) T.tuple PyProof.Rows.Boot.«tuple» (ac (pe_op op0catS (pe_slice sl0L (pv 1) (po_some (pv 3)) (po_some (pv 2))) (pe_slice sl0L (pv 1) po_none (po_some (pv 3)))) pa_nil)) (ac (cTy call_tuple_of (by rfl) T.tuple PyProof.Rows.Boot.«tuple» (ac (pe_slice sl0L (pv 1) (po_some (pv 2)) (po_some (pe_op op_add (pv 2) (pe_op op_mod (pe_op op_fdiv (pv 0) pe_int) (cBi (call_min2 rfl) (by rfl) T.min PyProof.Rows.Boot.«min» (ac pe_int (ac (pe_op op_sub pe_int (pv 2)) pa_nil))))))) pa_nil)) pa_nil))))))))), ?_⟩
  try (set_option simprocs false in dsimp only [cxOf])
  refine ⟨_, rfl, _, _, rfl, rfl, (by show (0 : Int) < 7; decide), _, _, rfl, rfl, _, rfl, ite2 (fun _ => ?_) (fun _ => ?_)⟩
  · exact ⟨_, rfl, _, rfl, n, rfl, k⟩
  refine ⟨(by show 10 ≤ sizeLine; decide), fun l f1 => ?_⟩
  refine ⟨_, rfl, _, _, rfl, rfl, ⟨by decide, by decide⟩, _, _, rfl, rfl, (by show (0 : Int) < 6; decide), _, _, rfl, rfl, ?_⟩
  refine ⟨?_, ?_⟩
  rotate_left
  · refine ⟨_, rfl, _, _, rfl, rfl, ⟨by decide, by decide⟩, _, rfl, _, _, rfl, rfl, pos1 (many6 (n / 7)).1, ?_⟩
    exact ⟨l, 1 + n / 7 % 6, _, rfl, Same.new f1, upd_same, (many6 (n / 7)).1, (many6 (n / 7)).2, md0 _ (pos1 (many6 (n / 7)).1), md1 _ (pos1 (many6 (n / 7)).1)⟩
  clear f1 l
  rintro _ H1 ⟨l, M, at', rfl, S1, e1, m1, m2, a0, a1⟩
  have l10 : nearL.length = 10 := rfl
  refine ⟨_, rfl, _, rfl, _, rfl, _, rfl, _, rfl, l, _, rfl, SqL.of e1, fun p2 f2 => ?_⟩
  rw [cut_mid a0 (nn1 m1)]
  have N2 := Same.new (o := .lst (((nearL.take M.toNat).drop at'.toNat).map V.int)) f2
  refine ⟨_, rfl, _, rfl, _, rfl, l, _, rfl, SqL.of (N2 _ _ e1), fun p3 f3 => ?_⟩
  rw [cut_to a0]
  have N3 := Same.new (o := .lst ((nearL.take at'.toNat).map V.int)) f3
  refine ⟨p2, p3, _, _, rfl, rfl, SqL.of (N3 _ _ upd_same), SqL.of upd_same, ?_, fun p4 f4 => ?_⟩
  · have := take_len nearL M.toNat at'.toNat at'.toNat (by decide)
    rwa [List.take_take, Nat.min_self] at this
  rw [← List.map_append]
  refine ⟨p4, _, rfl, .inl ⟨SqL.of upd_same, fun t1 f5 => ?_⟩⟩
  have U5 := Same.new (o := .tup (((nearL.take M.toNat).drop at'.toNat ++ nearL.take at'.toNat).map V.int)) f5
  have U2 := N2.trans (N3.trans ((Same.new (o := .lst (((nearL.take M.toNat).drop at'.toNat ++ nearL.take at'.toNat).map V.int)) f4).trans U5))
  obtain ⟨kk, hkk, kk0, kk4, kk10⟩ : ∃ kk : Int, kk = n / 252 % (if 11 - M < 5 then 11 - M else 5) ∧ 0 ≤ kk ∧ kk ≤ 4 ∧ M + kk ≤ 10 := ⟨_, rfl, near_k m1 m2⟩
  have nn := near_n m1 m2 kk0 kk4 kk10 a0 a1
  refine ⟨_, rfl, _, rfl, _, rfl, _, rfl, _, rfl, _, _, rfl, rfl, ⟨by decide, by decide⟩, _, rfl, _, _, rfl, rfl, _, _, rfl, _, _, rfl, rfl, near_p m1 m2, _, _, rfl, rfl, ?_⟩
  refine ⟨_, rfl, l, _, rfl, SqL.of (U2 _ _ e1), fun p6 f6 => ?_⟩
  have ec : cutV (nearL.map V.int) (some M) (some (M + n / 252 % (if 11 - M < 5 then 11 - M else 5))) = ((nearL.take (M.toNat + kk.toNat)).drop M.toNat).map V.int := by
    rw [← hkk, cut_mid (nn1 m1) nn.2.2, nn.2.1]
  rw [ec]
  refine ⟨p6, _, rfl, .inl ⟨SqL.of upd_same, fun t2 f7 => ⟨(by show 2 ≤ sizeLine; decide), fun t f8 => ?_⟩⟩⟩
  have V6 := Same.new (o := .lst (((nearL.take (M.toNat + kk.toNat)).drop M.toNat).map V.int)) f6
  have V7 := Same.new (o := .tup (((nearL.take (M.toNat + kk.toNat)).drop M.toNat).map V.int)) f7
  have V8 := Same.new (o := .tup [.ref t1, .ref t2]) f8
  have hfree : H t = none := (S1.trans (U2.trans (V6.trans V7))).free f8
  exact k _ _ t _ (near_base (many := M.toNat) (at' := at'.toNat) (k := kk.toNat) nn.1.1.1 nn.1.1.2 nn.1.2.1 nn.1.2.2.1 nn.1.2.2.2) (S1.trans (U2.trans (V6.trans (V7.trans V8)))) hfree ⟨t1, t2, upd_same, (V6.trans (V7.trans V8)) _ _ upd_same, V8 _ _ upd_same⟩
noncomputable abbrev s_divisors_of : Stmt := top 10
theorem sc_divisors_of : FnScope ["base"] ["base"] (defScope s_divisors_of) := ⟨rfl, rfl, rfl, by decide +kernel, rfl, by decide +kernel, by decide +kernel⟩
theorem b_divisors_of : BindsAll "divisors_of" s_divisors_of ["base"] := binds1 fun _ _ _ _ _ _ _ => rfl
theorem ok_divisors_of (D : Def K mg "divisors_of" s_divisors_of) : FnS P w K mg base "divisors_of" ["base"] 1 sp_divs := by
  refine D.ok sc_divisors_of b_divisors_of sp1_len fun f cdv A outer s H vs Q E hr h => ?_
  obtain ⟨_, rfl, kept, spare, ⟨⟨t, rfl, B⟩, gb⟩, k⟩ := h
  refine ⟨_, (pss_one (ps_ret (pe_op op0catT (pe_ix ix0T (pv 0) pe_int (fun _ _ => rfl)) (pe_ix ix0T (pv 0) pe_int (fun _ _ => rfl))))), ?_⟩
  try (set_option simprocs false in dsimp only [cxOf])
  obtain ⟨t1, t2, e0, e1, e2⟩ := B.ex
  refine ⟨_, rfl, t, _, _, _, rfl, rfl, SqT.of e0, rfl, _, rfl, t, _, _, _, rfl, rfl, SqT.of e0, rfl, t1, t2, _, _, rfl, rfl, SqT.of e1, SqT.of e2, gb.ne, gb.room, fun hs => ?_, fun _ p hp => ?_⟩
  · have hs : spare = [] := List.map_eq_nil_iff.mp hs
    subst hs
    exact k t1 H (Same.refl H) (by rw [List.append_nil]; exact e1)
  · exact k p _ (Same.new hp) (by rw [List.map_append]; exact upd_same)
noncomputable abbrev s_product_of : Stmt := top 11
theorem sc_product_of : FnScope ["numbers", "product", "number"] ["numbers"] (defScope s_product_of) := ⟨rfl, rfl, rfl, by decide +kernel, rfl, by decide +kernel, by decide +kernel⟩
theorem b_product_of : BindsAll "product_of" s_product_of ["numbers"] := binds1 fun _ _ _ _ _ _ _ => rfl
theorem ok_product_of (D : Def K mg "product_of" s_product_of) : FnS P w K mg base "product_of" ["numbers"] 1 sp_prodT := by
  refine D.ok sc_product_of b_product_of sp1_len fun f cdv A outer s H vs Q E hr h => ?_
  obtain ⟨_, rfl, t, ds, rfl, e1, rng, k⟩ := h
  refine ⟨_, (pss_cons (ps_set (i := 1) sc_product_of.nd rfl (Or.inl rfl) pe_int)
      (pss_cons (ps_for own_pass rfl (pi_tup (pv 0)) (pg_name (i := 2) sc_product_of.nd rfl (Or.inl rfl))
        (pss_one (ps_set (i := 1) sc_product_of.nd rfl (Or.inl rfl) (pe_op op_mul (pv 1) (pv 2)))))
      (pss_one (ps_ret (pv 1))))), ?_⟩
  try (set_option simprocs false in dsimp only [cxOf])
  refine ⟨_, rfl, t, rfl, ⟨_, SqT.of e1⟩, for_tup (K := K) (xs := ds.map V.int) (fun i σ H' => ∃ (p : Int) (y : Option V), σ = [some (.ref t), some (.int p), y] ∧ H' = H ∧ p = prod (ds.take i))
    ⟨1, none, rfl, rfl, rfl⟩ (fun i σ H' _ ⟨_, _, _, e, _⟩ => by rw [e]; exact SqT.of e1) ?_ ?_⟩
  · rintro i x σ _ hx ⟨p, y, rfl, rfl, e⟩
    obtain ⟨d, hi, rfl⟩ := ints_at hx
    have h2 := rng d (List.mem_of_getElem? hi)
    exact ⟨_, rfl, _, rfl, _, _, rfl, rfl, .inr ⟨by show -(2 ^ 64) < d; omega, by show d < 2 ^ 64; omega⟩, _, _, rfl, rfl, by rw [take_succ_prod hi, e]⟩
  · rintro σ _ ⟨p, y, rfl, rfl, e⟩
    rw [List.length_map, List.take_length] at e
    subst e
    exact ⟨_, rfl, k⟩
noncomputable abbrev s_span_of : Stmt := top 12
theorem sc_span_of : FnScope ["base"] ["base"] (defScope s_span_of) := ⟨rfl, rfl, rfl, by decide +kernel, rfl, by decide +kernel, by decide +kernel⟩
theorem b_span_of : BindsAll "span_of" s_span_of ["base"] := binds1 fun _ _ _ _ _ _ _ => rfl
theorem ok_span_of (D : Def K mg "span_of" s_span_of) (F_product_of : FnS P w K mg base "product_of" ["numbers"] 1 sp_prodT) : FnS P w K mg base "span_of" ["base"] 2 sp_span := by
  refine D.ok sc_span_of b_span_of sp1_len fun f cdv A outer s H vs Q E hr h => ?_
  obtain ⟨_, rfl, kept, spare, ⟨⟨t, rfl, B⟩, gb⟩, k⟩ := h
  refine ⟨_, (pss_one (ps_ret (cFn F_product_of hr passes0 (ac (pe_ix ix0T (pv 0) pe_int (fun _ _ => rfl)) pa_nil)))), ?_⟩
  try (set_option simprocs false in dsimp only [cxOf])
  obtain ⟨t1, t2, e0, e1, e2⟩ := B.ex
  exact ⟨_, rfl, t, _, _, _, rfl, rfl, SqT.of e0, rfl, _, rfl, t1, kept, rfl, e1, fun d hd => gb.rng d (List.mem_append_left _ hd), k⟩
noncomputable abbrev s_lowest : Stmt := top 13
theorem sc_lowest : FnScope ["base"] ["base"] (defScope s_lowest) := ⟨rfl, rfl, rfl, by decide +kernel, rfl, by decide +kernel, by decide +kernel⟩
theorem b_lowest : BindsAll "lowest" s_lowest ["base"] := binds1 fun _ _ _ _ _ _ _ => rfl
theorem ok_lowest (D : Def K mg "lowest" s_lowest) (F_span_of : FnS P w K mg base "span_of" ["base"] 2 sp_span) : FnS P w K mg base "lowest" ["base"] 3 sp_low := by
  refine D.ok sc_lowest b_lowest sp1_len fun f cdv A outer s H vs Q E hr h => ?_
  obtain ⟨_, rfl, kept, spare, B, k⟩ := h
  refine ⟨_, (pss_one (ps_ret (pe_un un_neg (pe_op op_fdiv (pe_op op_sub (cFn F_span_of hr passes0 (ac (pv 0) pa_nil)) pe_int) pe_int)))), ?_⟩
  try (set_option simprocs false in dsimp only [cxOf])
  exact ⟨_, rfl, _, rfl, kept, spare, B, _, _, rfl, rfl, _, _, rfl, rfl, ⟨by decide, by decide⟩, _, rfl, k⟩
noncomputable abbrev s_highest : Stmt := top 14
theorem sc_highest : FnScope ["base"] ["base"] (defScope s_highest) := ⟨rfl, rfl, rfl, by decide +kernel, rfl, by decide +kernel, by decide +kernel⟩
theorem b_highest : BindsAll "highest" s_highest ["base"] := binds1 fun _ _ _ _ _ _ _ => rfl
theorem ok_highest (D : Def K mg "highest" s_highest) (F_span_of : FnS P w K mg base "span_of" ["base"] 2 sp_span) : FnS P w K mg base "highest" ["base"] 3 sp_high := by
  refine D.ok sc_highest b_highest sp1_len fun f cdv A outer s H vs Q E hr h => ?_
  obtain ⟨_, rfl, kept, spare, B, k⟩ := h
  refine ⟨_, (pss_one (ps_ret (pe_op op_fdiv (cFn F_span_of hr passes0 (ac (pv 0) pa_nil)) pe_int))), ?_⟩
  try (set_option simprocs false in dsimp only [cxOf])
  exact ⟨_, rfl, _, rfl, kept, spare, B, _, _, rfl, rfl, ⟨by decide, by decide⟩, k⟩
noncomputable abbrev s_fits : Stmt := top 15
theorem sc_fits : FnScope ["base", "number"] ["base", "number"] (defScope s_fits) := ⟨rfl, rfl, rfl, by decide +kernel, rfl, by decide +kernel, by decide +kernel⟩
theorem b_fits : BindsAll "fits" s_fits ["base", "number"] := binds2 fun _ _ _ _ _ _ _ _ => rfl
theorem ok_fits (D : Def K mg "fits" s_fits) (F_lowest : FnS P w K mg base "lowest" ["base"] 3 sp_low) (F_highest : FnS P w K mg base "highest" ["base"] 3 sp_high) : FnS P w K mg base "fits" ["base", "number"] 4 sp_fits := by
  refine D.ok sc_fits b_fits sp2_len fun f cdv A outer s H vs Q E hr h => ?_
  obtain ⟨_, _, rfl, kept, spare, n, B, rfl, k⟩ := h
  refine ⟨_, (pss_one (ps_ret (pe_chain op_le op_le (cFn F_lowest hr passes0 (ac (pv 0) pa_nil)) (pv 1) (cFn F_highest hr passes0 (ac (pv 0) pa_nil))))), ?_⟩
  try (set_option simprocs false in dsimp only [cxOf])
  refine ⟨_, rfl, _, rfl, kept, spare, B, _, rfl, _, _, rfl, rfl, _, rfl, ?_⟩
  by_cases h1 : RF.lowest kept ≤ n
  · rw [decide_eq_true h1]
    refine iteT ⟨_, rfl, _, rfl, kept, spare, B, _, _, rfl, rfl, ?_⟩
    have e : decide (n ≤ RF.highest kept) = decide (Fits kept n) := decide_eq_decide.mpr ⟨fun h => ⟨h1, h⟩, fun h => h.2⟩
    show Q (.bl (decide (n ≤ RF.highest kept))) H
    rw [e]; exact k
  · rw [decide_eq_false h1]
    refine iteF ?_
    have e : false = decide (Fits kept n) := (decide_eq_false fun h => h1 h.1).symm
    show Q (.bl false) H
    rw [e]; exact k
noncomputable abbrev s__law_span : Stmt := top 39
theorem sc__law_span : FnScope ["_law_base", "_law_size", "_law_one"] ["_law_base"] (defScope s__law_span) := ⟨rfl, rfl, rfl, by decide +kernel, rfl, by decide +kernel, by decide +kernel⟩
theorem b__law_span : BindsAll "_law_span" s__law_span ["_law_base"] := binds1 fun _ _ _ _ _ _ _ => rfl
theorem ok__law_span (D : Def K mg "_law_span" s__law_span) : FnS P w K mg base "_law_span" ["_law_base"] 1 sp_span := by
  refine D.ok sc__law_span b__law_span sp1_len fun f cdv A outer s H vs Q E hr h => ?_
  obtain ⟨_, rfl, kept, spare, ⟨⟨t, rfl, B⟩, gb⟩, k⟩ := h
  refine ⟨_, (pss_cons (ps_set (i := 1) sc__law_span.nd rfl (Or.inl rfl) pe_int)
      (pss_cons (ps_for own_pass rfl (pi_tup (pe_ix ix0T (pv 0) pe_int (fun _ _ => rfl))) (pg_name (i := 2) sc__law_span.nd rfl (Or.inl rfl))
        (pss_one (ps_set (i := 1) sc__law_span.nd rfl (Or.inl rfl) (pe_op op_mul (pv 1) (pv 2)))))
      (pss_one (ps_ret (pv 1))))), ?_⟩
  try (set_option simprocs false in dsimp only [cxOf])
  obtain ⟨t1, t2, e0, e1, e2⟩ := B.ex
  refine ⟨_, rfl, t, _, _, _, rfl, rfl, SqT.of e0, rfl, t1, rfl, ⟨_, SqT.of e1⟩, for_tup (K := K) (xs := kept.map V.int) (fun i σ H' => ∃ (p : Int) (y : Option V), σ = [some (.ref t), some (.int p), y] ∧ H' = H ∧ p = prod (kept.take i))
    ⟨1, none, rfl, rfl, rfl⟩ (fun i σ H' _ ⟨_, _, _, e, _⟩ => by rw [e]; exact SqT.of e1) ?_ ?_⟩
  · rintro i x σ _ hx ⟨p, y, rfl, rfl, e⟩
    obtain ⟨d, hi, rfl⟩ := ints_at hx
    have h2 := gb.rng d (List.mem_append_left _ (List.mem_of_getElem? hi))
    exact ⟨_, rfl, _, rfl, _, _, rfl, rfl, .inr ⟨by show -(2 ^ 64) < d; omega, by show d < 2 ^ 64; omega⟩, _, _, rfl, rfl, by rw [take_succ_prod hi, e]⟩
  · rintro σ _ ⟨p, y, rfl, rfl, e⟩
    rw [List.length_map, List.take_length] at e
    subst e
    exact ⟨_, rfl, k⟩
noncomputable abbrev s_rests_of : Stmt := top 21
theorem sc_rests_of : FnScope ["base", "number"] ["base", "number"] (defScope s_rests_of) := ⟨rfl, rfl, rfl, by decide +kernel, rfl, by decide +kernel, by decide +kernel⟩
theorem b_rests_of : BindsAll "rests_of" s_rests_of ["base", "number"] := binds2 fun _ _ _ _ _ _ _ _ => rfl
theorem ok_rests_of (D : Def K mg "rests_of" s_rests_of) (F_divisors_of : FnS P w K mg base "divisors_of" ["base"] 1 sp_divs) : FnS P w K mg base "rests_of" ["base", "number"] 2 sp_rests := by
  refine D.ok sc_rests_of b_rests_of sp2_len fun f cdv A outer s H vs Q E hr h => ?_
  obtain ⟨_, _, rfl, kept, spare, n, B, rfl, k⟩ := h
  refine ⟨_, (pss_one (ps_ret (pe_comp (lv := 1) (caps := [1]) (N' := ["divisor", "number"]) rfl (CompOk.caps (sc := defScope s_rests_of) rfl (by decide +kernel) (by decide +kernel) (by decide +kernel) rfl rfl (compcap1 rfl rfl rfl)) (keep_name (by decide)) (pi_tup (cFn F_divisors_of hr passes0 (ac (pv 0) pa_nil))) (fun _ _ _ _ => pg_name (i := 0) (show (["divisor", "number"] : List Str).Nodup by decide +kernel) rfl (Or.inl rfl)) (fun _ _ _ _ => (pe_op op_mod (pv 1) (pv 0)))))), ?_⟩
  try (set_option simprocs false in dsimp only [cxOf])
  refine ⟨_, rfl, _, rfl, kept, spare, B, fun p H1 S1 e1 => ⟨p, rfl, ⟨_, SqT.of e1⟩, comp_T (K := K) (SqT.of e1) B.2.many (restV n) ?_ ?_⟩⟩
  · intro x hx H' Q' S q
    obtain ⟨d, hd, rfl⟩ := List.mem_map.mp hx
    have h2 := B.2.rng d hd
    exact ⟨_, rfl, _, rfl, _, _, rfl, rfl, (by show 0 < d; omega), q _ (Same.refl _)⟩
  · intro D H' hD S e
    exact k D H' (S1.trans S) (S1.free hD) (by rw [e, rests_map])
noncomputable abbrev s_figure_of : Stmt := top 17
theorem sc_figure_of : FnScope ["base", "number"] ["base", "number"] (defScope s_figure_of) := ⟨rfl, rfl, rfl, by decide +kernel, rfl, by decide +kernel, by decide +kernel⟩
theorem b_figure_of : BindsAll "figure_of" s_figure_of ["base", "number"] := binds2 fun _ _ _ _ _ _ _ _ => rfl
theorem ok_figure_of (D : Def K mg "figure_of" s_figure_of) (T : Txt K mg cR cT cB cW cD cP cA cU) (F_fits : FnS P w K mg base "fits" ["base", "number"] 4 sp_fits) (F_rests_of : FnS P w K mg base "rests_of" ["base", "number"] 2 sp_rests) : FnS P w K mg base "figure_of" ["base", "number"] 5 (sp_figure cT) := by
  refine D.ok sc_figure_of b_figure_of sp2_len fun f cdv A outer s H vs Q E hr h => ?_
  obtain ⟨_, _, rfl, kept, spare, n, B, rfl, yes, no⟩ := h
  refine ⟨_, (pss_cons (ps_if (pt_not (pt_val (cFn F_fits hr passes0 (ac (pv 0) (ac (pv 1) pa_nil)))))
        (pss_one (ps_raise T.x_TooGreat T.TooGreat (ac pe_str pa_nil)))
        pss_nil)
      (pss_one (ps_ret (cFn F_rests_of hr passes0 (ac (pv 0) (ac (pv 1) pa_nil)))))), ?_⟩
  try (set_option simprocs false in dsimp only [cxOf])
  refine ⟨_, rfl, _, rfl, _, _, rfl, kept, spare, n, B, rfl, _, rfl, ?_⟩
  by_cases hf : Fits kept n
  · rw [decide_eq_true hf]
    exact iteF ⟨_, rfl, _, rfl, _, _, rfl, kept, spare, n, B, rfl, yes hf⟩
  · rw [decide_eq_false hf]
    exact iteT ⟨by decide, no hf H (Same.refl H)⟩
noncomputable abbrev s__law_figure : Stmt := top 41
theorem sc__law_figure : FnScope ["_law_base", "_law_number"] ["_law_base", "_law_number"] (defScope s__law_figure) := ⟨rfl, rfl, rfl, by decide +kernel, rfl, by decide +kernel, by decide +kernel⟩
theorem b__law_figure : BindsAll "_law_figure" s__law_figure ["_law_base", "_law_number"] := binds2 fun _ _ _ _ _ _ _ _ => rfl
theorem ok_law_figure (D : Def K mg "_law_figure" s__law_figure) : FnS P w K mg base "_law_figure" ["_law_base", "_law_number"] 1 sp_rests := by
  refine D.ok sc__law_figure b__law_figure sp2_len fun f cdv A outer s H vs Q E hr h => ?_
  obtain ⟨_, _, rfl, kept, spare, n, ⟨⟨t, rfl, B⟩, gb⟩, rfl, k⟩ := h
  refine ⟨_, (pss_one (ps_ret (pe_comp (lv := 1) (caps := [1]) (N' := ["_law_one", "_law_number"]) rfl (CompOk.caps (sc := defScope s__law_figure) rfl (by decide +kernel) (by decide +kernel) (by decide +kernel) rfl rfl (compcap1 rfl rfl rfl)) (keep_name (by decide)) (pi_tup (pe_op op0catT (pe_ix ix0T (pv 0) pe_int (fun _ _ => rfl)) (pe_ix ix0T (pv 0) pe_int (fun _ _ => rfl)))) (fun _ _ _ _ => pg_name (i := 0) (show (["_law_one", "_law_number"] : List Str).Nodup by decide +kernel) rfl (Or.inl rfl)) (fun _ _ _ _ => (pe_op op_mod (pv 1) (pv 0)))))), ?_⟩
  try (set_option simprocs false in dsimp only [cxOf])
  obtain ⟨t1, t2, e0, e1, e2⟩ := B.ex
  have go : ∀ p H1, Same H H1 → H1 p = some (.tup ((kept ++ spare).map V.int)) → compW (Itt K p) (gName 0) (tOp (rI (fun _ j => 0 < j) fun i j => V.int (i % j)) (tVar 1) (tVar 0)) (seen 1 [1] [some (.ref t), some (.int n)]) Q H1 := fun p H1 S1 e1 => by
    refine comp_T (K := K) (SqT.of e1) gb.many (restV n) ?_ ?_
    · intro x hx H' Q' S q
      obtain ⟨d, hd, rfl⟩ := List.mem_map.mp hx
      have h2 := gb.rng d hd
      exact ⟨_, rfl, _, rfl, _, _, rfl, rfl, (by show 0 < d; omega), q _ (Same.refl _)⟩
    · intro D H' hD S e
      exact k D H' (S1.trans S) (S1.free hD) (by rw [e, rests_map])
  refine ⟨_, rfl, t, _, _, _, rfl, rfl, SqT.of e0, rfl, _, rfl, t, _, _, _, rfl, rfl, SqT.of e0, rfl, t1, t2, _, _, rfl, rfl, SqT.of e1, SqT.of e2, gb.ne, gb.room, fun hs => ?_, fun _ p hp => ?_⟩
  · have hs : spare = [] := List.map_eq_nil_iff.mp hs
    subst hs
    exact ⟨t1, rfl, ⟨_, SqT.of e1⟩, go t1 H (Same.refl H) (by rw [List.append_nil]; exact e1)⟩
  · exact ⟨p, rfl, ⟨_, SqT.of upd_same⟩, go p _ (Same.new hp) (by rw [List.map_append]; exact upd_same)⟩
noncomputable abbrev s__law_cell_at : Stmt := top 35
theorem sc__law_cell_at : FnScope ["_law_script", "_law_k"] ["_law_script", "_law_k"] (defScope s__law_cell_at) := ⟨rfl, rfl, rfl, by decide +kernel, rfl, by decide +kernel, by decide +kernel⟩
theorem b__law_cell_at : BindsAll "_law_cell_at" s__law_cell_at ["_law_script", "_law_k"] := binds2 fun _ _ _ _ _ _ _ _ => rfl
theorem ok_cell_at (D : Def K mg "_law_cell_at" s__law_cell_at) (T : Txt K mg cR cT cB cW cD cP cA cU) : FnS P w K mg base "_law_cell_at" ["_law_script", "_law_k"] 1 (sp_cell_at K) := by
  refine D.ok sc__law_cell_at b__law_cell_at sp2_len fun f cdv A outer s H vs Q E hr h => ?_
  obtain ⟨_, _, rfl, l, ns, i, rfl, rfl, hq, h0, k⟩ := h
  refine ⟨_, (pss_cons (ps_if (pt_cmpR op_lt (pv 1) (cBi call_len_seq (by rfl) T.len PyProof.Rows.Boot.«len» (ac (pv 0) pa_nil)) (nomark _))
        (pss_one (ps_ret (pe_ix ix_list (pv 0) (pv 1) (fun _ _ => rfl))))
        pss_nil)
      (pss_one (ps_ret pe_int))), ?_⟩
  try (set_option simprocs false in dsimp only [cxOf])
  refine ⟨_, rfl, _, rfl, l, _, rfl, .inl hq, _, _, rfl, rfl, _, rfl, ?_⟩
  rw [List.length_map]
  by_cases hl : i < (ns.length : Int)
  · rw [decide_eq_true hl]
    exact iteT ⟨_, rfl, _, rfl, l, _, _, _, rfl, rfl, hq, atI_ints h0 hl, k _⟩
  · rw [decide_eq_false hl]
    exact iteF (k 0)
noncomputable abbrev s__law_fitting : Stmt := top 40
theorem sc__law_fitting : FnScope ["_law_base", "_law_cell", "_law_size", "_law_number", "_law_low"] ["_law_base", "_law_cell"] (defScope s__law_fitting) := ⟨rfl, rfl, rfl, by decide +kernel, rfl, by decide +kernel, by decide +kernel⟩
theorem b__law_fitting : BindsAll "_law_fitting" s__law_fitting ["_law_base", "_law_cell"] := binds2 fun _ _ _ _ _ _ _ _ => rfl
theorem ok_fitting (D : Def K mg "_law_fitting" s__law_fitting) (F__law_span : FnS P w K mg base "_law_span" ["_law_base"] 1 sp_span) (F__law_mixed : FnS P w K mg base "_law_mixed" ["_law_number", "_law_k"] 1 sp_mixed) : FnS P w K mg base "_law_fitting" ["_law_base", "_law_cell"] 2 sp_fitting := by
  refine D.ok sc__law_fitting b__law_fitting sp2_len fun f cdv A outer s H vs Q E hr h => ?_
  obtain ⟨_, _, rfl, kept, spare, c, B, rfl, k⟩ := h
  refine ⟨_, (pss_cons (ps_set (i := 2) sc__law_fitting.nd rfl (Or.inl rfl) (cFn F__law_span hr passes0 (ac (pv 0) pa_nil)))
      (pss_cons (ps_set (i := 3) sc__law_fitting.nd rfl (Or.inl rfl) (cFn F__law_mixed hr passes0 (ac (pv 1) (ac pe_int pa_nil))))
      (pss_cons (ps_set (i := 4) sc__law_fitting.nd rfl (Or.inl rfl) (pe_op op_sub pe_int (pe_op op_fdiv (pe_op op_sub (pv 2) pe_int) pe_int)))
      (pss_cons (ps_if (pt_cmpR op_eq (pe_op op_mod (pv 3) pe_int) pe_int (nomark _))
        (pss_one (ps_ret (pe_op op_add (pv 4) (pe_op op_mod (pe_op op_sub (pe_op op_mod (pe_op op_fdiv (pv 3) pe_int) pe_int) pe_int) (pv 2)))))
        pss_nil)
      (pss_cons (ps_if (pt_cmpR op_eq (pe_op op_mod (pv 3) pe_int) pe_int (nomark _))
        (pss_one (ps_ret (pe_op op_add (pv 4) (pe_op op_mod (pe_op op_sub (pe_op op_add (pe_op op_fdiv (pe_op op_sub (pv 2) pe_int) pe_int) (pe_op op_mod (pe_op op_fdiv (pv 3) pe_int) pe_int)) pe_int) (pv 2)))))
        pss_nil)
      (pss_one (ps_ret (pe_op op_add (pv 4) (pe_op op_mod (pe_op op_add (pe_op op_mod (pv 1) (pe_op op_pow pe_int pe_int)) (pe_op op_mul (pe_op op_mul (pv 3) pe_int) (pv 3))) (pv 2)))))))))), ?_⟩
  try (set_option simprocs false in dsimp only [cxOf])
  have hp : 0 < prod kept := B.2.span
  have fin : ∀ x : Int, Q (.int (0 - (prod kept - 1) / 2 + x % prod kept)) H := fun x => by
    have h0 : 0 ≤ x % prod kept := Int.emod_nonneg _ (by omega)
    have h1 : x % prod kept < prod kept := Int.emod_lt_of_pos _ hp
    refine k _ ?_ ?_
    · unfold RF.lowest; omega
    · unfold RF.highest; omega
  refine ⟨_, rfl, _, rfl, kept, spare, B, _, rfl, _, _, rfl, c, 3, rfl, rfl, by decide, by decide, fun nb nb0 nb1 => ?_⟩
  refine ⟨_, rfl, _, _, rfl, rfl, _, _, rfl, rfl, ⟨by decide, by decide⟩, _, _, rfl, rfl, ?_⟩
  refine ⟨_, rfl, _, _, rfl, rfl, (by show (0 : Int) < 4; decide), rfl, _, rfl, ite2 (fun _ => ?_) (fun _ => ?_)⟩
  · exact ⟨_, rfl, _, rfl, _, _, rfl, rfl, ⟨by decide, by decide⟩, _, _, rfl, rfl, (by show (0 : Int) < 9; decide), _, _, rfl, rfl, _, rfl, _, _, rfl, rfl, hp, _, _, rfl, rfl, fin _⟩
  refine ⟨_, rfl, _, _, rfl, rfl, (by show (0 : Int) < 4; decide), rfl, _, rfl, ite2 (fun _ => ?_) (fun _ => ?_)⟩
  · exact ⟨_, rfl, _, rfl, _, _, rfl, rfl, _, _, rfl, rfl, ⟨by decide, by decide⟩, _, rfl, _, _, rfl, rfl, ⟨by decide, by decide⟩, _, _, rfl, rfl, (by show (0 : Int) < 9; decide), _, _, rfl, rfl, _, _, rfl, rfl, _, rfl, _, _, rfl, rfl, hp, _, _, rfl, rfl, fin _⟩
  · exact ⟨_, rfl, _, rfl, _, _, rfl, rfl, ⟨by decide, by decide, by decide⟩, _, _, rfl, rfl, (by show (0 : Int) < 10 ^ 50; decide), _, rfl, _, _, rfl, rfl, .inr ⟨by decide, by decide⟩, _, rfl, _, _, rfl, rfl, .inr ⟨by show -(2 ^ 64) < nb; omega, by show nb < 2 ^ 64; omega⟩, _, _, rfl, rfl, _, rfl, _, _, rfl, rfl, hp, _, _, rfl, rfl, fin _⟩
noncomputable abbrev s_inverse : Stmt := top 26
theorem sc_inverse : FnScope ["number", "divisor", "left", "times"] ["number", "divisor"] (defScope s_inverse) := ⟨rfl, rfl, rfl, by decide +kernel, rfl, by decide +kernel, by decide +kernel⟩
theorem b_inverse : BindsAll "inverse" s_inverse ["number", "divisor"] := binds2 fun _ _ _ _ _ _ _ _ => rfl
theorem ok_inverse (D : Def K mg "inverse" s_inverse) : ∀ j : Nat, FnS P w K mg base "inverse" ["number", "divisor"] (j + 1) (sp_inv j)
  | 0 => by
    refine D.ok sc_inverse b_inverse sp2_len fun f cdv A outer s H vs Q E hr h => ?_
    obtain ⟨_, _, rfl, n, d, rfl, rfl, h2, h6, hc, hs, k⟩ := h
    exfalso
    have h0 := left_ne h2 hc
    have h1 := md0 n (pos2 h2)
    have := Int.mul_le_mul_of_nonneg_left (show 1 ≤ n % d by omega) (show 0 ≤ d by omega)
    omega
  | j + 1 => by
    have F_inverse := ok_inverse D j
    refine D.ok sc_inverse b_inverse sp2_len fun f cdv A outer s H vs Q E hr h => ?_
    obtain ⟨_, _, rfl, n, d, rfl, rfl, h2, h6, hc, hs, k⟩ := h
    have h0 := left_ne h2 hc
    have h1 := md0 n (pos2 h2)
    have h3 := md1 n (pos2 h2)
    refine ⟨_, (pss_cons (ps_set (i := 2) sc_inverse.nd rfl (Or.inl rfl) (pe_op op_mod (pv 0) (pv 1)))
      (pss_cons (ps_if (pt_cmpR op_eq (pv 2) pe_int (nomark _))
        (pss_one (ps_ret pe_int))
        pss_nil)
      (pss_cons (ps_set (i := 3) sc_inverse.nd rfl (Or.inl rfl) (pe_op op_sub (pv 2) (cFn (hkk := Nat.le_refl _) F_inverse hr passes0 (ac (pv 1) (ac (pv 2) pa_nil)))))
      (pss_one (ps_ret (pe_op op_fdiv (pe_op op_add (pe_op op_mul (pv 1) (pv 3)) pe_int) (pv 2))))))), ?_⟩
    try (set_option simprocs false in dsimp only [cxOf])
    refine ⟨_, rfl, _, rfl, _, _, rfl, rfl, pos2 h2, _, rfl, rfl, _, rfl, ite2 (fun e => ?_) (fun e => ?_)⟩
    · exact k 1 (inv_one h2 (vint_eq e))
    · have hL := two_of h1 h0 (vint_ne e)
      have h30 := lt30 hL h3 h6
      refine ⟨_, rfl, _, rfl, _, rfl, _, _, rfl, d, n % d, rfl, rfl, hL, h30.1, cop_left hc, size_down hL h3 hs, fun v hv => ⟨_, _, rfl, rfl, ?_⟩⟩
      exact ⟨_, rfl, _, rfl, _, _, rfl, rfl, .inl (d64 h2 h6), _, _, rfl, rfl, _, rfl, _, _, rfl, rfl, h30.2, k _ (inv_up h2 hL hv)⟩
noncomputable abbrev s_number_by_rests : Stmt := top 25
theorem sc_number_by_rests : FnScope ["divisors", "rests", "number", "step", "rest", "divisor", "steps"] ["divisors", "rests"] (defScope s_number_by_rests) := ⟨rfl, rfl, rfl, by decide +kernel, rfl, by decide +kernel, by decide +kernel⟩
theorem b_number_by_rests : BindsAll "number_by_rests" s_number_by_rests ["divisors", "rests"] := binds2 fun _ _ _ _ _ _ _ _ => rfl
theorem ok_by_rests (D : Def K mg "number_by_rests" s_number_by_rests) (T : Txt K mg cR cT cB cW cD cP cA cU) (F_inverse : FnS P w K mg base "inverse" ["number", "divisor"] 41 (sp_inv 40)) :
    FnS P w K mg base "number_by_rests" ["divisors", "rests"] 42 sp_by_rests := by
  refine D.ok sc_number_by_rests b_number_by_rests sp2_len fun f cdv A outer s H vs Q E hr h => ?_
  obtain ⟨_, _, rfl, t1, l, kept, ns, rfl, rfl, e1, el, rng, copK, hlen, hrng, k⟩ := h
  refine ⟨_, (pss_cons (ps_set (i := 2) sc_number_by_rests.nd rfl (Or.inl rfl) pe_int)
      (pss_cons (ps_set (i := 3) sc_number_by_rests.nd rfl (Or.inl rfl) pe_int)
      (pss_cons (ps_for own_pass rfl (pi_zip .L .T rfl T.zip (ac (pv 1) (ac (pv 0) pa_nil))) (pg_tup (n := 2) rfl (pgs_cons (pg_name (i := 4) sc_number_by_rests.nd rfl (Or.inl rfl)) (pgs_cons (pg_name (i := 5) sc_number_by_rests.nd rfl (Or.inl rfl)) pgs_nil)))
        (pss_cons (ps_set (i := 6) sc_number_by_rests.nd rfl (Or.inl rfl) (pe_op op_mod (pe_op op_mul (pe_op op_sub (pv 4) (pv 2)) (cFn F_inverse hr passes0 (ac (pv 3) (ac (pv 5) pa_nil)))) (pv 5)))
        (pss_cons (ps_set (i := 2) sc_number_by_rests.nd rfl (Or.inl rfl) (pe_op op_add (pv 2) (pe_op op_mul (pv 6) (pv 3))))
        (pss_one (ps_set (i := 3) sc_number_by_rests.nd rfl (Or.inl rfl) (pe_op op_mul (pv 3) (pv 5)))))))
      (pss_cons (ps_if (pt_cmpR op_gt (pv 2) (pe_op op_fdiv (pv 3) pe_int) (nomark _))
        (pss_one (ps_ret (pe_op op_sub (pv 2) (pv 3))))
        pss_nil)
      (pss_one (ps_ret (pv 2))))))), ?_⟩
  try (set_option simprocs false in dsimp only [cxOf])
  refine ⟨_, rfl, _, rfl, l, t1, rfl, ⟨_, SqL.of el⟩, ⟨_, SqT.of e1⟩, for_zip (K := K) (k1 := .L) (k2 := .T) (xs := ns.map V.int) (ys := kept.map V.int)
    (fun i σ H' => ∃ (number step : Int) (y4 y5 y6 : Option V), σ = [some (.ref t1), some (.ref l), some (.int number), some (.int step), y4, y5, y6] ∧ Same H H' ∧ Upto kept ns i number step)
    ⟨0, 1, none, none, none, rfl, Same.refl H, upto_zero kept ns⟩ (fun i σ H' ⟨_, _, _, _, _, _, S, _⟩ => ⟨SqL.of (S _ _ el), SqT.of (S _ _ e1)⟩) ?_ ?_⟩
  · rintro i x y p σ H' hx hy ⟨number, step, y4, y5, y6, rfl, S, U⟩ hp
    obtain ⟨r, hr', rfl⟩ := ints_at hx
    obtain ⟨d, hd, rfl⟩ := ints_at hy
    have h2 := rng d (List.mem_of_getElem? hd)
    have hrd := hrng i d r hd hr'
    have hc : Cop step d := by rw [U.st]; exact step_cop copK hd
    have dp := pos2 h2.1
    have d6 := d64 h2.1 h2.2
    refine ⟨p, _, rfl, SqT.of upd_same, rfl, _, _, rfl, _, _, rfl, rfl, ?_⟩
    refine ⟨_, rfl, _, rfl, _, _, rfl, rfl, _, rfl, _, rfl, _, _, rfl, step, d, rfl, rfl, h2.1, h2.2, hc, sz40 h2.1 h2.2 (md1 step dp), fun v hv => ?_⟩
    refine ⟨_, _, rfl, rfl, .inr (v64 (nn1 hv.lo) hv.hi h2.2), _, rfl, _, _, rfl, rfl, dp, ?_⟩
    refine ⟨_, rfl, _, rfl, _, rfl, _, _, rfl, rfl, .inl (v64 (md0 _ dp) (md1 _ dp) h2.2), _, _, rfl, rfl, ?_⟩
    refine ⟨_, rfl, _, rfl, _, _, rfl, rfl, .inr d6, ?_⟩
    exact ⟨_, _, _, _, _, rfl, S.trans (Same.new hp), upto_step (fun x hx => (rng x hx).1) U hd hr' hrd.1 hrd.2 hv⟩
  · rintro σ H' ⟨number, step, y4, y5, y6, rfl, S, U⟩
    rw [List.length_map, List.length_map, Nat.min_eq_right hlen] at U
    have hs := U.st
    rw [List.take_length] at hs
    subst hs
    refine ⟨_, rfl, _, rfl, _, _, rfl, rfl, ⟨by decide, by decide⟩, _, _, rfl, rfl, _, rfl, ?_⟩
    by_cases hg : prod kept / 2 < number
    · rw [decide_eq_true hg]
      exact iteT ⟨_, rfl, _, rfl, _, _, rfl, rfl, k _ H' (kept_high U hg) S⟩
    · rw [decide_eq_false hg]
      exact iteF ⟨_, rfl, k _ H' (kept_low U hg) S⟩
noncomputable abbrev s_number_by_kept : Stmt := top 24
theorem sc_number_by_kept : FnScope ["base", "figure"] ["base", "figure"] (defScope s_number_by_kept) := ⟨rfl, rfl, rfl, by decide +kernel, rfl, by decide +kernel, by decide +kernel⟩
theorem b_number_by_kept : BindsAll "number_by_kept" s_number_by_kept ["base", "figure"] := binds2 fun _ _ _ _ _ _ _ _ => rfl
theorem ok_by_kept (D : Def K mg "number_by_kept" s_number_by_kept) (T : Txt K mg cR cT cB cW cD cP cA cU) (F_number_by_rests : FnS P w K mg base "number_by_rests" ["divisors", "rests"] 42 sp_by_rests) :
    FnS P w K mg base "number_by_kept" ["base", "figure"] 43 sp_by_kept := by
  refine D.ok sc_number_by_kept b_number_by_kept sp2_len fun f cdv A outer s H vs Q E hr h => ?_
  obtain ⟨_, _, rfl, kept, spare, l, ns, B, rfl, el, hlen, hrng, k⟩ := h
  refine ⟨_, (pss_one (ps_ret (cFn F_number_by_rests hr passes0 (ac (pe_ix ix0T (pv 0) pe_int (fun _ _ => rfl)) (ac (pe_slice sl0L (pv 1) po_none (po_some (cBi call0len (by rfl) T.len PyProof.Rows.Boot.«len» (ac (pe_ix ix0T (pv 0) pe_int (fun _ _ => rfl)) pa_nil)))) pa_nil))))), ?_⟩
  try (set_option simprocs false in dsimp only [cxOf])
  obtain ⟨⟨t, rfl, hb⟩, gb⟩ := id B
  obtain ⟨t1, t2, e0, e1, e2⟩ := hb.ex
  refine ⟨_, rfl, t, _, _, _, rfl, rfl, SqT.of e0, rfl, _, rfl, _, rfl, t, _, _, _, rfl, rfl, SqT.of e0, rfl, t1, _, rfl, .inr (SqT.of e1), _, rfl, l, _, rfl, SqL.of el, fun p hp => ?_⟩
  have ec : cutV (ns.map V.int) none (some ((kept.map V.int).length : Int)) = (ns.take kept.length).map V.int := by rw [List.length_map, cut_to (by omega), Int.toNat_natCast]
  rw [ec]
  refine ⟨_, _, rfl, t1, p, kept, ns.take kept.length, rfl, rfl, (Same.new hp) _ _ e1, upd_same, fun d hd => gb.rng d (List.mem_append_left _ hd), gb.copK, by rw [List.length_take]; omega, take_rng hrng, fun v H' hk S => ?_⟩
  exact k v H' (kept_take hk) ((Same.new hp).trans S)
noncomputable abbrev s_refuse_no_figure : Stmt := top 23
theorem sc_refuse_no_figure : FnScope ["base", "figure", "divisors", "rest", "divisor"] ["base", "figure"] (defScope s_refuse_no_figure) := ⟨rfl, rfl, rfl, by decide +kernel, rfl, by decide +kernel, by decide +kernel⟩
theorem b_refuse_no_figure : BindsAll "refuse_no_figure" s_refuse_no_figure ["base", "figure"] := binds2 fun _ _ _ _ _ _ _ _ => rfl
theorem ok_refuse (D : Def K mg "refuse_no_figure" s_refuse_no_figure) (T : Txt K mg cR cT cB cW cD cP cA cU) (F_divisors_of : FnS P w K mg base "divisors_of" ["base"] 1 sp_divs) : FnS P w K mg base "refuse_no_figure" ["base", "figure"] 2 (sp_refuse cB) := by
  refine D.ok sc_refuse_no_figure b_refuse_no_figure sp2_len fun f cdv A outer s H vs Q E hr h => ?_
  obtain ⟨_, _, rfl, kept, spare, l, ns, B, rfl, el, yes, no⟩ := h
  refine ⟨_, (pss_cons (ps_set (i := 2) sc_refuse_no_figure.nd rfl (Or.inl rfl) (cFn F_divisors_of hr passes0 (ac (pv 0) pa_nil)))
      (pss_cons (ps_if (pt_cmpR op_ne (cBi call0len (by rfl) T.len PyProof.Rows.Boot.«len» (ac (pv 1) pa_nil)) (cBi call0len (by rfl) T.len PyProof.Rows.Boot.«len» (ac (pv 2) pa_nil)) (nomark _))
        (pss_one (ps_raise T.x_BadFigure T.BadFigure (ac pe_str pa_nil)))
        pss_nil)
      (pss_one (ps_for own_pass rfl (pi_zip .L .T rfl T.zip (ac (pv 1) (ac (pv 2) pa_nil))) (pg_tup (n := 2) rfl (pgs_cons (pg_name (i := 3) sc_refuse_no_figure.nd rfl (Or.inl rfl)) (pgs_cons (pg_name (i := 4) sc_refuse_no_figure.nd rfl (Or.inl rfl)) pgs_nil)))
        (pss_one (ps_if (pt_not (pt_chain op_le op_lt pe_int (pv 3) (pv 4)))
          (pss_one (ps_raise T.x_BadFigure T.BadFigure (ac pe_str pa_nil)))
          pss_nil)))))), ?_⟩
  try (set_option simprocs false in dsimp only [cxOf])
  refine ⟨_, rfl, _, rfl, kept, spare, B, fun p H1 S1 ep => ?_⟩
  obtain ⟨⟨t, rfl, hb⟩, gb⟩ := id B
  have el1 := S1 _ _ el
  refine ⟨_, rfl, l, _, rfl, .inl (SqL.of el1), _, rfl, p, _, rfl, .inr (SqT.of ep), rfl, _, rfl, ?_⟩
  rw [List.length_map, List.length_map]
  by_cases hl : ns.length = (kept ++ spare).length
  case neg =>
    have hb : (!decide (V.int (ns.length : Int) = V.int ((kept ++ spare).length : Int))) = true := by
      simp only [V.int.injEq, Bool.not_eq_true', decide_eq_false_iff_not]
      omega
    rw [hb]
    exact iteT ⟨by decide, no (fun v => hl v.len) H1 S1⟩
  refine iteNS (by rw [hl]) ?_
  refine ⟨_, rfl, _, rfl, l, p, rfl, ⟨_, SqL.of el1⟩, ⟨_, SqT.of ep⟩, for_zip (K := K) (k1 := .L) (k2 := .T) (xs := ns.map V.int) (ys := (kept ++ spare).map V.int)
    (fun i σ H' => ∃ y3 y4, σ = [some (.ref t), some (.ref l), some (.ref p), y3, y4] ∧ Same H1 H' ∧ ∀ (j : Nat) (d r : Int), j < i → (kept ++ spare)[j]? = some d → ns[j]? = some r → 0 ≤ r ∧ r < d)
    ⟨none, none, rfl, Same.refl H1, fun j _ _ h => absurd h (Nat.not_lt_zero j)⟩ (fun i σ H' ⟨_, _, _, S, _⟩ => ⟨SqL.of (S _ _ el1), SqT.of (S _ _ ep)⟩) ?_ ?_⟩
  · rintro i x y a σ H' hx hy ⟨y3, y4, rfl, S, U⟩ ha
    obtain ⟨r, hr', rfl⟩ := ints_at hx
    obtain ⟨d, hd, rfl⟩ := ints_at hy
    have S' := S1.trans (S.trans (Same.new (o := .tup [.int r, .int d]) ha))
    refine ⟨a, _, rfl, SqT.of upd_same, rfl, _, _, rfl, _, _, rfl, rfl, ?_⟩
    refine ⟨_, rfl, _, _, rfl, rfl, _, rfl, ?_⟩
    by_cases h0 : 0 ≤ r
    case neg =>
      rw [decide_eq_false h0]
      exact iteF ⟨_, rfl, iteT ⟨by decide, no (fun v => h0 (v.rng i d r hd hr').1) _ S'⟩⟩
    rw [decide_eq_true h0]
    refine iteT ⟨_, rfl, _, _, rfl, rfl, _, rfl, ?_⟩
    by_cases h1 : r < d
    case neg =>
      rw [decide_eq_false h1]
      exact iteT ⟨by decide, no (fun v => h1 (v.rng i d r hd hr').2) _ S'⟩
    rw [decide_eq_true h1]
    refine iteF ⟨_, _, rfl, S.trans (Same.new ha), fun j d' r' hj hd' hr2 => ?_⟩
    rcases Nat.lt_or_ge j i with h | h
    · exact U j d' r' h hd' hr2
    · have e : j = i := by omega
      subst e
      rw [hd] at hd'; cases hd'
      rw [hr'] at hr2; cases hr2
      exact ⟨h0, h1⟩
  · rintro σ H' ⟨y3, y4, rfl, S, U⟩
    rw [List.length_map, List.length_map, hl, Nat.min_self] at U
    exact yes ⟨hl, fun j d r hd hr' => U j d r (List.getElem?_eq_some_iff.mp hd).1 hd hr'⟩ H' (S1.trans S)
noncomputable abbrev s_is_right : Stmt := top 20
theorem sc_is_right : FnScope ["base", "figure"] ["base", "figure"] (defScope s_is_right) := ⟨rfl, rfl, rfl, by decide +kernel, rfl, by decide +kernel, by decide +kernel⟩
theorem b_is_right : BindsAll "is_right" s_is_right ["base", "figure"] := binds2 fun _ _ _ _ _ _ _ _ => rfl
theorem ok_is_right (D : Def K mg "is_right" s_is_right) (T : Txt K mg cR cT cB cW cD cP cA cU) (F_refuse_no_figure : FnS P w K mg base "refuse_no_figure" ["base", "figure"] 2 (sp_refuse cB)) (F_number_by_kept : FnS P w K mg base "number_by_kept" ["base", "figure"] 43 sp_by_kept) (F_rests_of : FnS P w K mg base "rests_of" ["base", "number"] 2 sp_rests) :
    FnS P w K mg base "is_right" ["base", "figure"] 44 (sp_is_right cB) := by
  refine D.ok sc_is_right b_is_right sp2_len fun f cdv A outer s H vs Q E hr h => ?_
  obtain ⟨_, _, rfl, kept, spare, l, ns, B, rfl, el, yes, no⟩ := h
  refine ⟨_, (pss_cons (ps_expr (cFn F_refuse_no_figure hr passes1 (ac (pv 0) (ac (pv 1) pa_nil))))
      (pss_one (ps_ret (pe_cmpR (op_eqDK K hr.units) (cFn F_rests_of hr passes0 (ac (pv 0) (ac (cFn F_number_by_kept hr passes0 (ac (pv 0) (ac (pv 1) pa_nil))) pa_nil))) (pv 1) (nomark _))))), ?_⟩
  try (set_option simprocs false in dsimp only [cxOf])
  refine ⟨_, rfl, _, rfl, _, _, rfl, kept, spare, l, ns, B, rfl, el, fun hv H1 S1 => ?_, no⟩
  refine ⟨_, rfl, _, rfl, _, rfl, _, _, rfl, kept, spare, l, ns, B.up S1, rfl, S1 _ _ el, hv.kept_len, hv.kept_rng, fun v H2 hk S2 => ?_⟩
  refine ⟨_, _, rfl, kept, spare, v, B.up (S1.trans S2), rfl, fun lr H3 S3 hlr e3 => ?_⟩
  have SA := S1.trans (S2.trans S3)
  refine ⟨_, rfl, _, _, rdL e3, rdL (SA _ _ el), shaped_ints _, shaped_ints _, ?_⟩
  rw [eqv_ints]
  exact yes hv v H3 hk SA
noncomputable abbrev s_number_of : Stmt := top 18
theorem sc_number_of : FnScope ["base", "figure"] ["base", "figure"] (defScope s_number_of) := ⟨rfl, rfl, rfl, by decide +kernel, rfl, by decide +kernel, by decide +kernel⟩
theorem b_number_of : BindsAll "number_of" s_number_of ["base", "figure"] := binds2 fun _ _ _ _ _ _ _ _ => rfl
theorem ok_number_of (D : Def K mg "number_of" s_number_of) (T : Txt K mg cR cT cB cW cD cP cA cU) (F_is_right : FnS P w K mg base "is_right" ["base", "figure"] 44 (sp_is_right cB)) (F_number_by_kept : FnS P w K mg base "number_by_kept" ["base", "figure"] 43 sp_by_kept) :
    FnS P w K mg base "number_of" ["base", "figure"] 45 (sp_number_of cB cW) := by
  refine D.ok sc_number_of b_number_of sp2_len fun f cdv A outer s H vs Q E hr h => ?_
  obtain ⟨_, _, rfl, kept, spare, l, ns, B, rfl, el, yes, wr, no⟩ := h
  refine ⟨_, (pss_cons (ps_if (pt_not (pt_val (cFn F_is_right hr passes1 (ac (pv 0) (ac (pv 1) pa_nil)))))
        (pss_one (ps_raise T.x_Wrong T.Wrong (ac pe_str pa_nil)))
        pss_nil)
      (pss_one (ps_ret (cFn F_number_by_kept hr passes0 (ac (pv 0) (ac (pv 1) pa_nil)))))), ?_⟩
  try (set_option simprocs false in dsimp only [cxOf])
  refine ⟨_, rfl, _, rfl, _, _, rfl, kept, spare, l, ns, B, rfl, el, fun hv v H1 hk S1 => ⟨_, rfl, ?_⟩, no⟩
  by_cases he : rests (kept ++ spare) v = ns
  · rw [decide_eq_true he]
    refine iteF ⟨_, rfl, _, rfl, _, _, rfl, kept, spare, l, ns, B.up S1, rfl, S1 _ _ el, hv.kept_len, hv.kept_rng, fun u H2 hu S2 => ?_⟩
    rw [kept_unique B.2 hv.kept_len hu hk]
    exact yes hv v H2 hk he (S1.trans S2)
  · rw [decide_eq_false he]
    exact iteT ⟨by decide, wr hv v H1 hk he S1⟩
noncomputable abbrev s_refuse_no_figures : Stmt := top 22
theorem sc_refuse_no_figures : FnScope ["base", "figures", "figure"] ["base", "figures"] (defScope s_refuse_no_figures) := ⟨rfl, rfl, rfl, by decide +kernel, rfl, by decide +kernel, by decide +kernel⟩
theorem b_refuse_no_figures : BindsAll "refuse_no_figures" s_refuse_no_figures ["base", "figures"] := binds2 fun _ _ _ _ _ _ _ _ => rfl
theorem ok_refuse_all (D : Def K mg "refuse_no_figures" s_refuse_no_figures) (F_refuse_no_figure : FnS P w K mg base "refuse_no_figure" ["base", "figure"] 2 (sp_refuse cB)) :
    FnS P w K mg base "refuse_no_figures" ["base", "figures"] 3 (sp_refsL cB) := by
  refine D.ok sc_refuse_no_figures b_refuse_no_figures sp2_len fun f cdv A outer s H vs Q E hr h => ?_
  obtain ⟨_, _, rfl, kept, spare, as, fs, B, ⟨lf, rfl, ef, F⟩, yes, bad⟩ := h
  refine ⟨_, (pss_one (ps_for own_pass rfl (pi_list (pv 1)) (pg_name (i := 2) sc_refuse_no_figures.nd rfl (Or.inl rfl))
        (pss_one (ps_expr (cFn F_refuse_no_figure hr passes1 (ac (pv 0) (ac (pv 2) pa_nil))))))), ?_⟩
  try (set_option simprocs false in dsimp only [cxOf])
  obtain ⟨⟨t, rfl, hb⟩, gb⟩ := id B
  refine ⟨_, rfl, lf, rfl, ⟨_, SqL.of ef⟩, for_list (K := K) (xs := as.map V.ref) (fun i σ H' => ∃ y, σ = [some (.ref t), some (.ref lf), y] ∧ Same H H' ∧ ∀ (j : Nat) f, j < i → fs[j]? = some f → Valid (kept ++ spare) f)
    ⟨none, rfl, Same.refl H, fun j _ h => absurd h (Nat.not_lt_zero j)⟩ (fun i σ H' _ ⟨_, _, S, _⟩ => SqL.of (S _ _ ef)) ?_ ?_⟩
  · rintro i x σ H' hx ⟨y, rfl, S, g⟩
    obtain ⟨a, ha, rfl⟩ := refs_at hx
    obtain ⟨f, hf, ea⟩ := F.get ha
    refine ⟨_, rfl, _, rfl, _, _, rfl, kept, spare, a, f, B.up S, rfl, S _ _ ea, fun hv H'' S' => ⟨_, rfl, S.trans S', fun j f' hj hf' => ?_⟩, fun hv H'' S' => bad ⟨f, List.mem_of_getElem? hf, hv⟩ H'' (S.trans S')⟩
    rcases Nat.lt_or_ge j i with h | h
    · exact g j f' h hf'
    · have e : j = i := by omega
      rw [e, hf] at hf'; cases hf'
      exact hv
  · rintro σ H' ⟨y, rfl, S, g⟩
    rw [List.length_map, F.len] at g
    exact yes (fun f hf => by obtain ⟨j, hj⟩ := List.mem_iff_getElem?.mp hf; exact g j f (List.getElem?_eq_some_iff.mp hj).1 hj) H' S
noncomputable abbrev s_numbers_of : Stmt := top 19
theorem sc_numbers_of : FnScope ["base", "figures"] ["base", "figures"] (defScope s_numbers_of) := ⟨rfl, rfl, rfl, by decide +kernel, rfl, by decide +kernel, by decide +kernel⟩
theorem b_numbers_of : BindsAll "numbers_of" s_numbers_of ["base", "figures"] := binds2 fun _ _ _ _ _ _ _ _ => rfl
theorem ok_numbers_of (D : Def K mg "numbers_of" s_numbers_of) (F_refuse_no_figures : FnS P w K mg base "refuse_no_figures" ["base", "figures"] 3 (sp_refsL cB)) (F_number_of : FnS P w K mg base "number_of" ["base", "figure"] 45 (sp_number_of cB cW)) :
    FnS P w K mg base "numbers_of" ["base", "figures"] 46 (sp_numsL cB cW) := by
  refine D.ok sc_numbers_of b_numbers_of sp2_len fun f cdv A outer s H vs Q E hr h => ?_
  obtain ⟨_, _, rfl, kept, spare, as, fs, B, R, hsz, hcase⟩ := h
  refine ⟨_, (pss_cons (ps_expr (cFn F_refuse_no_figures hr passes1 (ac (pv 0) (ac (pv 1) pa_nil))))
      (pss_one (ps_ret (pe_compE (lv := 1) (caps := [0]) (N' := ["figure", "base"]) (xe := fun C s H fp => compXe _ E _ C _ s H fp) (fun _ _ _ _ _ _ _ _ _ _ I f hC z => comp_err I f hC z) rfl (CompOk.caps (sc := defScope s_numbers_of) rfl (by decide +kernel) (by decide +kernel) (by decide +kernel) rfl rfl (compcap1 rfl rfl rfl)) (keep_name (by decide)) (pi_list (pv 1)) (fun _ _ _ _ => pg_name (i := 0) (show (["figure", "base"] : List Str).Nodup by decide +kernel) rfl (Or.inl rfl)) (fun _ _ _ _ => (cFn F_number_of hr passE (ac (pv 1) (ac (pv 0) pa_nil)))))))), ?_⟩
  try (set_option simprocs false in dsimp only [cxOf])
  obtain ⟨lf, rfl, ef, F⟩ := id R
  have gb := B.2
  have vr : ∀ {ns : List Int}, fs = ns.map (rests (kept ++ spare)) → ∀ f ∈ fs, Valid (kept ++ spare) f := fun {ns} e f hf => by
    rw [e] at hf
    obtain ⟨n, _, rfl⟩ := List.mem_map.mp hf
    exact rests_valid (fun d hd => (gb.rng d hd).1) n
  refine ⟨_, rfl, _, rfl, _, _, rfl, kept, spare, as, fs, B, R, fun hv H' S => ?_, fun ⟨f, hf, hn⟩ => ?_⟩
  rotate_left
  · rcases hcase with ⟨ns, e, _⟩ | ⟨_, e⟩ | ⟨v, _⟩
    · exact absurd (vr e f hf) hn
    · exact e
    · exact absurd (v f hf) hn
  have wr : ∀ f ∈ fs, WrongF kept spare f → ∀ H'', Same H' H'' → E (.ref cW) none H'' := fun f hf hw H'' S' => by
    rcases hcase with ⟨ns, e, ft, _⟩ | ⟨⟨g, hg, hn⟩, _⟩ | ⟨_, _, e⟩
    · rw [e] at hf
      obtain ⟨n, hn, rfl⟩ := List.mem_map.mp hf
      exact (RightF.notWrong ⟨rfl, ft n hn⟩ hw).elim
    · exact absurd (hv g hg) hn
    · exact e H'' (S.trans S')
  refine ⟨_, rfl, lf, rfl, ⟨_, SqL.of (S _ _ ef)⟩, comp_LP (K := K) (SqL.of (S _ _ ef)) (by rw [List.length_map]; exact hsz) (fun x => numV kept spare (figA H x)) (fun x => ∃ n, RightF kept spare (figA H x) n) ?_ ?_⟩
  · intro x hx H2 Q' S2 q
    obtain ⟨a, ha, rfl⟩ := List.mem_map.mp hx
    obtain ⟨i, hi⟩ := List.mem_iff_getElem?.mp ha
    obtain ⟨f, hf, ea⟩ := F.get hi
    have hf := List.mem_of_getElem? hf
    have a2 := (S.trans S2) _ _ ea
    have B2 := B.up (S.trans S2)
    rw [figA_of ea] at q
    rcases fig_cases (kept := kept) (spare := spare) f with ⟨n, hn⟩ | hw | hn
    · rw [numV_right gb hn] at q
      exact ⟨_, rfl, _, rfl, right_number' B2 a2 hn fun H3 S3 => q ⟨n, hn⟩ H3 S3⟩
    · exact ⟨_, rfl, _, rfl, wrong_number B2 a2 hw fun H3 S3 => wr f hf hw H3 (S2.trans S3)⟩
    · exact absurd (hv f hf) hn
  · intro hall D H2 hD S2 eD
    rcases hcase with ⟨ns, e, ft, k⟩ | ⟨⟨g, hg, hn⟩, _⟩ | ⟨_, ⟨g, hg, hw⟩, _⟩
    · exact k D H2 (S.trans S2) (S.free hD) (by rw [eD, F.nums gb e ft])
    · exact absurd (hv g hg) hn
    · obtain ⟨a, ha, ea⟩ := F.back hg
      obtain ⟨n, hn⟩ := hall (.ref a) (List.mem_map.mpr ⟨a, ha, rfl⟩)
      rw [figA_of ea] at hn
      exact (hn.notWrong hw).elim
noncomputable abbrev s__law_fits : Stmt := top 46
theorem sc__law_fits : FnScope ["_law_base", "_law_number"] ["_law_base", "_law_number"] (defScope s__law_fits) := ⟨rfl, rfl, rfl, by decide +kernel, rfl, by decide +kernel, by decide +kernel⟩
theorem b__law_fits : BindsAll "_law_fits" s__law_fits ["_law_base", "_law_number"] := binds2 fun _ _ _ _ _ _ _ _ => rfl
theorem ok_law_fits (D : Def K mg "_law_fits" s__law_fits) (F__law_span : FnS P w K mg base "_law_span" ["_law_base"] 1 sp_span) : FnS P w K mg base "_law_fits" ["_law_base", "_law_number"] 2 sp_fits := by
  refine D.ok sc__law_fits b__law_fits sp2_len fun f cdv A outer s H vs Q E hr h => ?_
  obtain ⟨_, _, rfl, kept, spare, n, B, rfl, k⟩ := h
  refine ⟨_, (pss_one (ps_ret (pe_chain op_le op_le (pe_op op_sub pe_int (pe_op op_fdiv (pe_op op_sub (cFn F__law_span hr passes0 (ac (pv 0) pa_nil)) pe_int) pe_int)) (pv 1) (pe_op op_fdiv (cFn F__law_span hr passes0 (ac (pv 0) pa_nil)) pe_int)))), ?_⟩
  try (set_option simprocs false in dsimp only [cxOf])
  have el : RF.lowest kept = 0 - (prod kept - 1) / 2 := by unfold RF.lowest; omega
  refine ⟨_, rfl, _, rfl, kept, spare, B, _, _, rfl, rfl, _, _, rfl, rfl, ⟨by decide, by decide⟩, _, _, rfl, rfl, _, rfl, _, _, rfl, rfl, _, rfl, ?_⟩
  by_cases h1 : 0 - (prod kept - 1) / 2 ≤ n
  · rw [decide_eq_true h1]
    refine iteT ⟨_, rfl, _, rfl, kept, spare, B, _, _, rfl, rfl, ⟨by decide, by decide⟩, _, _, rfl, rfl, ?_⟩
    have e : decide (n ≤ prod kept / 2) = decide (Fits kept n) := decide_eq_decide.mpr ⟨fun h => ⟨by rw [el]; exact h1, h⟩, fun h => h.2⟩
    show Q (.bl (decide (n ≤ prod kept / 2))) H
    rw [e]; exact k
  · rw [decide_eq_false h1]
    refine iteF ?_
    have e : false = decide (Fits kept n) := (decide_eq_false fun h => h1 (by rw [← el]; exact h.1)).symm
    show Q (.bl false) H
    rw [e]; exact k
noncomputable abbrev s__law_due : Stmt := top 47
theorem sc__law_due : FnScope ["_law_base", "_law_number", "_law_words", "_law_word"] ["_law_base", "_law_number", "_law_words"] (defScope s__law_due) := ⟨rfl, rfl, rfl, by decide +kernel, rfl, by decide +kernel, by decide +kernel⟩
theorem b__law_due : BindsAll "_law_due" s__law_due ["_law_base", "_law_number", "_law_words"] := binds3 fun _ _ _ _ _ _ _ _ _ => rfl
theorem ok_due (D : Def K mg "_law_due" s__law_due) (F__law_fits : FnS P w K mg base "_law_fits" ["_law_base", "_law_number"] 2 sp_fits) (F__law_figure : FnS P w K mg base "_law_figure" ["_law_base", "_law_number"] 1 sp_rests) : FnS P w K mg base "_law_due" ["_law_base", "_law_number", "_law_words"] 3 sp_due := by
  refine D.ok sc__law_due b__law_due sp3_len fun f cdv A outer s H vs Q E hr h => ?_
  obtain ⟨_, _, _, rfl, kept, spare, x, lw, ws, B, rfl, rfl, ew, k⟩ := h
  refine ⟨_, (pss_cons (ps_for own_pass rfl (pi_tup (pe_tup (ac pe_str (ac pe_str pa_nil)))) (pg_name (i := 3) sc__law_due.nd rfl (Or.inl rfl))
        (pss_one (ps_if (pt_cmpR op0in (pv 3) (pv 2) (by with_unfolding_all rfl))
          (pss_one (ps_ret (pe_tup (ac (pv 3) (ac (pe_lst pa_nil) pa_nil)))))
          pss_nil)))
      (pss_cons (ps_if (pt_not (pt_val (cFn F__law_fits hr passes0 (ac (pv 0) (ac (pv 1) pa_nil)))))
        (pss_one (ps_ret (pe_tup (ac pe_str (ac (pe_lst pa_nil) pa_nil)))))
        pss_nil)
      (pss_one (ps_ret (pe_tup (ac pe_str (ac (cFn F__law_figure hr passes0 (ac (pv 0) (ac (pv 1) pa_nil))) pa_nil))))))), ?_⟩
  try (set_option simprocs false in dsimp only [cxOf])
  obtain ⟨⟨t, rfl, hb⟩, gb⟩ := id B
  have two : ∀ {a : V} {b : V}, ([a, b] : List V).length ≤ sizeLine := fun {_ _} => by show 2 ≤ sizeLine; decide
  have flat : (ws.map V.str).all flatV = true := flat_strs ws
  have told : ∀ (z : Str) (H1 : Hp), Same H H1 → dueOf kept spare x ws = (z, []) → ∀ l', H1 l' = none → ∀ p, upd H1 l' (.lst []) p = none → Q (.ref p) (upd (upd H1 l' (.lst [])) p (.tup [.str z, .ref l'])) := fun z H1 S1 e l' g p hp => by
    have N1 := Same.new (o := .lst []) g
    have N2 := Same.new (o := .tup [.str z, .ref l']) hp
    exact k p l' _ (S1.trans (N1.trans N2)) (by rw [e]; exact upd_same) (by rw [e]; exact N2 _ _ upd_same)
  refine ⟨two, fun pt gt => ?_⟩
  have N := Same.new (o := .tup [.str "figure", .str "wrong"]) gt
  refine ⟨pt, rfl, ⟨_, SqT.of upd_same⟩, for_tup (K := K) (xs := [.str "figure", .str "wrong"]) (fun i σ H' => ∃ y, σ = [some (.ref t), some (.int x), some (.ref lw), y] ∧ Same (upd H pt (.tup [.str "figure", .str "wrong"])) H' ∧ (0 < i → ("figure" : Str) ∉ ws) ∧ (1 < i → ("wrong" : Str) ∉ ws))
    ⟨none, rfl, Same.refl _, fun z => absurd z (Nat.lt_irrefl _), fun z => absurd z (by omega)⟩ (fun i σ H' _ ⟨_, _, S, _⟩ => SqT.of (S _ _ upd_same)) ?_ ?_⟩
  · rintro i y σ H' hy ⟨y3, rfl, S, g1, g2⟩
    have S' := N.trans S
    match i, hy with
    | 0, hy =>
      cases hy
      refine ⟨_, rfl, _, rfl, lw, _, rfl, .inl (SqL.of (S' _ _ ew)), rfl, flat, _, rfl, ?_⟩
      show (if inV (.str "figure") (ws.map V.str) = true then _ else _)
      rw [in_strs]
      by_cases hw : ("figure" : Str) ∈ ws
      · rw [decide_eq_true hw]
        exact iteT ⟨_, rfl, by decide, fun l' g' => ⟨two, fun p hp => told "figure" H' S' (by unfold dueOf; rw [if_pos hw]) l' g' p hp⟩⟩
      · rw [decide_eq_false hw]
        exact iteF ⟨_, rfl, S, fun _ => hw, fun z => absurd z (by omega)⟩
    | 1, hy =>
      cases hy
      have hf := g1 (by decide)
      refine ⟨_, rfl, _, rfl, lw, _, rfl, .inl (SqL.of (S' _ _ ew)), rfl, flat, _, rfl, ?_⟩
      show (if inV (.str "wrong") (ws.map V.str) = true then _ else _)
      rw [in_strs]
      by_cases hw : ("wrong" : Str) ∈ ws
      · rw [decide_eq_true hw]
        exact iteT ⟨_, rfl, by decide, fun l' g' => ⟨two, fun p hp => told "wrong" H' S' (by unfold dueOf; rw [if_neg hf, if_pos hw]) l' g' p hp⟩⟩
      · rw [decide_eq_false hw]
        exact iteF ⟨_, rfl, S, fun _ => hf, fun _ => hw⟩
    | i + 2, hy => simp at hy
  · rintro σ H' ⟨y3, rfl, S, g1, g2⟩
    have S' := N.trans S
    have hf := g1 (by show 0 < 2; decide)
    have hw := g2 (by show 1 < 2; decide)
    refine ⟨_, rfl, _, rfl, _, _, rfl, kept, spare, x, B.up S', rfl, _, rfl, ?_⟩
    by_cases hx : Fits kept x
    · rw [decide_eq_true hx]
      refine iteF ⟨_, rfl, _, rfl, _, _, rfl, kept, spare, x, B.up S', rfl, fun l' H1 S1 _ e1 => ⟨two, fun p hp => ?_⟩⟩
      have ed : dueOf kept spare x ws = ((("" : Str), rests (kept ++ spare) x) : Str × List Int) := by unfold dueOf; rw [if_neg hf, if_neg hw, if_pos hx]
      have N2 := Same.new (o := .tup [.str "", .ref l']) hp
      exact k p l' _ (S'.trans (S1.trans N2)) (by rw [ed]; exact upd_same) (by rw [ed]; exact N2 _ _ e1)
    · rw [decide_eq_false hx]
      exact iteT ⟨by decide, fun l' g' => ⟨two, fun p hp => told "great" H' S' (by unfold dueOf; rw [if_neg hf, if_neg hw, if_neg hx]) l' g' p hp⟩⟩
noncomputable abbrev s__law_same : Stmt := top 42
theorem sc__law_same : FnScope ["_law_found", "_law_due_here"] ["_law_found", "_law_due_here"] (defScope s__law_same) := ⟨rfl, rfl, rfl, by decide +kernel, rfl, by decide +kernel, by decide +kernel⟩
theorem b__law_same : BindsAll "_law_same" s__law_same ["_law_found", "_law_due_here"] := binds2 fun _ _ _ _ _ _ _ _ => rfl
noncomputable abbrev s__law_spoilt : Stmt := top 44
theorem sc__law_spoilt : FnScope ["_law_base", "_law_figure_here", "_law_number", "_law_at", "_law_by", "_law_how", "_law_more", "_law_ahead", "_law_behind", "_law_one"] ["_law_base", "_law_figure_here", "_law_number"] (defScope s__law_spoilt) := ⟨rfl, rfl, rfl, by decide +kernel, rfl, by decide +kernel, by decide +kernel⟩
theorem b__law_spoilt : BindsAll "_law_spoilt" s__law_spoilt ["_law_base", "_law_figure_here", "_law_number"] := binds3 fun _ _ _ _ _ _ _ _ _ => rfl
noncomputable def Gs (H : Hp) (kept spare : List Int) (t l : Addr) (nb : Int) (σ : St) (H' : Hp) : Prop := ∃ at' d : Int, σ = [some (.ref t), some (.ref l), some (.int nb), some (.int at'), some (.int d), none, none, none, none, none] ∧ Same H H' ∧ 0 ≤ at' ∧ at' < (kept ++ spare).length ∧ (kept ++ spare)[at'.toNat]? = some d
theorem ok_spoiltW (D : Def K mg "_law_spoilt" s__law_spoilt) (T : Txt K mg cR cT cB cW cD cP cA cU) : FnS P w K mg base "_law_spoilt" ["_law_base", "_law_figure_here", "_law_number"] 1 sp_spoiltW := by
  refine D.ok sc__law_spoilt b__law_spoilt sp3_len fun f cdv A outer s H vs Q E hr h => ?_
  obtain ⟨_, _, _, rfl, kept, spare, l, n, nb, ⟨⟨t, rfl, hb⟩, gb⟩, rfl, rfl, el, hf, nb0, k⟩ := h
  refine ⟨_, (pss_cons (ps_set (i := 3) sc__law_spoilt.nd rfl (Or.inl rfl) (pe_op op_mod (pe_op op_fdiv (pv 2) pe_int) (cBi call0len (by rfl) T.len PyProof.Rows.Boot.«len» (ac (pv 1) pa_nil))))
      (pss_cut (Gs H kept spare t l nb) (ps_set (i := 4) sc__law_spoilt.nd rfl (Or.inl rfl) (pe_ix ix0T (pe_op op0catT (pe_ix ix0T (pv 0) pe_int (fun _ _ => rfl)) (pe_ix ix0T (pv 0) pe_int (fun _ _ => rfl))) (pv 3) (fun _ _ => rfl)))
      (pss_cons (ps_set (i := 5) sc__law_spoilt.nd rfl (Or.inl rfl) (pe_op op_mod (pv 2) pe_int))
      (pss_cons (ps_set (i := 6) sc__law_spoilt.nd rfl (Or.inl rfl) (pe_op op_fdiv (pv 2) pe_int))
      (pss_cons (ps_set (i := 7) sc__law_spoilt.nd rfl (Or.inl rfl) (pe_slice sl0L (pv 1) po_none (po_some (pv 3))))
      (pss_cons (ps_set (i := 8) sc__law_spoilt.nd rfl (Or.inl rfl) (pe_slice sl0L (pv 1) (po_some (pe_op op_add (pv 3) pe_int)) po_none))
      (pss_cons (ps_if (pt_cmpR op_eq (pv 5) pe_int (nomark _))
        (pss_one (ps_ret (pe_tup (ac (pe_slice sl0L (pv 1) po_none (po_some (pe_un un_neg pe_int))) (ac pe_str pa_nil)))))
        pss_nil)
      (pss_cons (ps_if (pt_cmpR op_eq (pv 5) pe_int (nomark _))
        (pss_one (ps_ret (pe_tup (ac (pe_op op0catS (pv 1) (pe_lst (ac pe_int pa_nil))) (ac pe_str pa_nil)))))
        pss_nil)
      (pss_cons (ps_if (pt_cmpR op_eq (pv 5) pe_int (nomark _))
        (pss_one (ps_ret (pe_tup (ac (pe_op op0catS (pe_op op0catS (pv 7) (pe_lst (ac (pe_op op_add (pv 4) (pe_op op_mul (pe_op op_mod (pv 6) pe_int) (pe_op op_pow pe_int pe_int))) pa_nil))) (pv 8)) (ac pe_str pa_nil)))))
        pss_nil)
      (pss_cons (ps_if (pt_cmpR op_eq (pv 5) pe_int (nomark _))
        (pss_one (ps_ret (pe_tup (ac (pe_op op0catS (pe_op op0catS (pv 7) (pe_lst (ac (pe_op op_sub (pe_op op_sub pe_int pe_int) (pe_op op_mod (pv 6) pe_int)) pa_nil))) (pv 8)) (ac pe_str pa_nil)))))
        pss_nil)
      (pss_cons (ps_if (PW.pt (pw_and (pt_cmpR op_lt (pv 5) pe_int (nomark _)) (pw_and1 (pt_cmpR op_gt (cBi call0len (by rfl) T.len PyProof.Rows.Boot.«len» (ac (pe_ix ix0T (pv 0) pe_int (fun _ _ => rfl)) pa_nil)) pe_int (nomark _)))))
        (pss_cons (ps_set (i := 9) sc__law_spoilt.nd rfl (Or.inl rfl) (pe_op op_mod (pe_op op_add (pe_op op_add (pe_ix ix0L (pv 1) (pv 3) (fun _ _ => rfl)) pe_int) (pe_op op_mod (pv 6) (pe_op op_sub (pv 4) pe_int))) (pv 4)))
        (pss_one (ps_ret (pe_tup (ac (pe_op op0catS (pe_op op0catS (pv 7) (pe_lst (ac (pv 9) pa_nil))) (pv 8)) (ac pe_str pa_nil))))))
        pss_nil)
      (pss_one (ps_ret (pe_tup (ac (pv 1) (ac pe_str pa_nil)))))))))))))))), ?_⟩
  try (set_option simprocs false in dsimp only [cxOf])
  obtain ⟨t1, t2, e0, e1, e2⟩ := hb.ex
  have k1 := gb.k1
  have k6 := gb.k6
  have s4 := gb.s4
  have two : ∀ {a : V} {b : V}, ([a, b] : List V).length ≤ sizeLine := fun {_ _} => by show 2 ≤ sizeLine; decide
  have s30 : (30 : Nat) ≤ sizeLine := by decide
  have hlen := rests_length (kept ++ spare) n
  generalize hfs : rests (kept ++ spare) n = fs at *
  have hl1 : 1 ≤ fs.length := by rw [hlen, List.length_append]; omega
  have hl10 : fs.length ≤ 10 := by rw [hlen, List.length_append]; omega
  refine ⟨_, rfl, _, _, rfl, rfl, ⟨by decide, by decide⟩, _, rfl, l, _, rfl, .inl (SqL.of el), _, _, rfl, rfl, (by show (0 : Int) < ((fs.map V.int).length : Int); rw [List.length_map]; omega), ?_⟩
  have a0 : 0 ≤ nb / 12 % (fs.length : Int) := Int.emod_nonneg _ (by omega)
  have a1 : nb / 12 % (fs.length : Int) < fs.length := Int.emod_lt_of_pos _ (by omega)
  have hat : nb / 12 % ((fs.map V.int).length : Int) = nb / 12 % (fs.length : Int) := by rw [List.length_map]
  have hj : (nb / 12 % (fs.length : Int)).toNat < (kept ++ spare).length := by omega
  have hd : (kept ++ spare)[(nb / 12 % (fs.length : Int)).toNat]? = some ((kept ++ spare).getD (nb / 12 % (fs.length : Int)).toNat 0) := by
    rw [List.getD_eq_getElem?_getD, List.getElem?_eq_getElem hj]; rfl
  refine ⟨?_, ?_⟩
  rotate_left
  · refine ⟨_, rfl, t, _, _, _, rfl, rfl, SqT.of e0, rfl, _, rfl, t, _, _, _, rfl, rfl, SqT.of e0, rfl, t1, t2, _, _, rfl, rfl, SqT.of e1, SqT.of e2, gb.ne, gb.room, fun hs => ?_, fun _ p hp => ?_⟩
    · have hs : spare = [] := List.map_eq_nil_iff.mp hs
      have g1 : H t1 = some (.tup ((kept ++ spare).map V.int)) := by rw [hs, List.append_nil]; exact e1
      exact ⟨_, rfl, t1, _, _, _, rfl, rfl, SqT.of g1, atI_ints (by rw [hat]; exact a0) (by rw [hat, ← hlen]; exact a1), _, _, rfl, Same.refl H, by rw [hat]; exact a0, by rw [hat]; omega, by rw [hat]; exact hd⟩
    · have g1 : upd H p (.tup (kept.map V.int ++ spare.map V.int)) p = some (.tup ((kept ++ spare).map V.int)) := by rw [List.map_append]; exact upd_same
      exact ⟨_, rfl, p, _, _, _, rfl, rfl, SqT.of g1, atI_ints (by rw [hat]; exact a0) (by rw [hat, ← hlen]; exact a1), _, _, rfl, Same.new hp, by rw [hat]; exact a0, by rw [hat]; omega, by rw [hat]; exact hd⟩
  clear a0 a1 hat hj hd
  rintro _ H1 ⟨at', d, rfl, S1, a0, a1, hd⟩
  have hd2 := gb.rng d (List.mem_of_getElem? hd)
  have ha : at'.toNat < fs.length := by omega
  have el1 := S1 _ _ el
  refine ⟨_, rfl, _, _, rfl, rfl, (by show (0 : Int) < 12; decide), ?_⟩
  refine ⟨_, rfl, _, _, rfl, rfl, ⟨by decide, by decide⟩, ?_⟩
  refine ⟨_, rfl, _, rfl, _, rfl, l, _, rfl, SqL.of el1, fun pa fa => ?_⟩
  rw [cut_to a0]
  have NA := Same.new (o := .lst ((fs.take at'.toNat).map V.int)) fa
  refine ⟨_, rfl, _, rfl, _, _, rfl, rfl, _, rfl, l, _, rfl, SqL.of (NA _ _ el1), fun pb fb => ?_⟩
  rw [cut_from (by omega), show (at' + 1).toNat = at'.toNat + 1 by omega]
  have NB := Same.new (o := .lst ((fs.drop (at'.toNat + 1)).map V.int)) fb
  have S2 := S1.trans (NA.trans NB)
  have ea := NB _ _ (upd_same : upd H1 pa (.lst ((fs.take at'.toNat).map V.int)) pa = _)
  have eb := (upd_same : upd (upd H1 pa (.lst ((fs.take at'.toNat).map V.int))) pb (.lst ((fs.drop (at'.toNat + 1)).map V.int)) pb = _)
  have el2 := (NA.trans NB) _ _ el1
  generalize upd (upd H1 pa (.lst ((fs.take at'.toNat).map V.int))) pb (.lst ((fs.drop (at'.toNat + 1)).map V.int)) = H2 at *
  have hset : ∀ x : Int, (fs.take at'.toNat).map V.int ++ [V.int x] ++ (fs.drop (at'.toNat + 1)).map V.int = (fs.set at'.toNat x).map V.int := fun x => by
    rw [← set_cut ha, List.map_append, List.map_append]; rfl
  have lset : ∀ x : Int, (fs.set at'.toNat x).length ≤ 20 := fun x => by rw [List.length_set]; omega
  have bad : ∀ x : Int, (x < 0 ∨ d ≤ x) → FigW kept spare n (fs.set at'.toNat x) "figure" := fun x hx => .inr (.inl ⟨rfl, bad_at hlen hd hx⟩)
  refine ⟨_, rfl, rfl, _, rfl, ite2 (fun _ => ?_) (fun _ => ?_)⟩
  · refine ⟨_, rfl, _, rfl, _, rfl, l, _, rfl, SqL.of el2, fun p fp => ?_⟩
    rw [cut_last hl1]
    have N := Same.new (o := .lst ((fs.take (fs.length - 1)).map V.int)) fp
    refine ⟨two, fun q fq => ?_⟩
    have M := Same.new (o := .tup [.ref p, .str "figure"]) fq
    exact k q p _ "figure" _ (S2.trans (N.trans M)) upd_same (M _ _ upd_same) (by rw [List.length_take]; omega) (.inr (.inl ⟨rfl, bad_short hlen (by omega)⟩))
  refine ⟨_, rfl, rfl, _, rfl, ite2 (fun _ => ?_) (fun _ => ?_)⟩
  · refine ⟨_, rfl, (by show 1 ≤ sizeLine; decide), fun p fp => ?_⟩
    have N := Same.new (o := .lst [.int 0]) fp
    refine ⟨l, p, _, _, rfl, rfl, SqL.of (N _ _ el2), SqL.of upd_same, (by rw [List.length_map]; show _ + 1 ≤ _; omega), fun p2 f2 => ⟨two, fun q fq => ?_⟩⟩
    have N2 := Same.new (o := .lst (fs.map V.int ++ [.int 0])) f2
    have M := Same.new (o := .tup [.ref p2, .str "figure"]) fq
    exact k q p2 (fs ++ [0]) "figure" _ (S2.trans (N.trans (N2.trans M))) upd_same (by rw [List.map_append]; exact M _ _ upd_same) (by rw [List.length_append]; show _ + 1 ≤ 20; omega) (.inr (.inl ⟨rfl, bad_long hlen⟩))
  have fin : ∀ (x : Int) (word : Str), FigW kept spare n (fs.set at'.toNat x) word → ∀ p, H2 p = none → ∀ p1, upd H2 p (.lst [.int x]) p1 = none → ∀ p2, upd (upd H2 p (.lst [.int x])) p1 (.lst ((fs.take at'.toNat).map V.int ++ [.int x])) p2 = none →
      ∀ q, upd (upd (upd H2 p (.lst [.int x])) p1 (.lst ((fs.take at'.toNat).map V.int ++ [.int x]))) p2 (.lst ((fs.take at'.toNat).map V.int ++ [.int x] ++ (fs.drop (at'.toNat + 1)).map V.int)) q = none →
      Q (.ref q) (upd (upd (upd (upd H2 p (.lst [.int x])) p1 (.lst ((fs.take at'.toNat).map V.int ++ [.int x]))) p2 (.lst ((fs.take at'.toNat).map V.int ++ [.int x] ++ (fs.drop (at'.toNat + 1)).map V.int))) q (.tup [.ref p2, .str word])) := fun x word hw p fp p1 f1 p2 f2 q fq => by
    have N1 := Same.new (o := .lst [.int x]) fp
    have N2 := Same.new (o := .lst ((fs.take at'.toNat).map V.int ++ [.int x])) f1
    have N3 := Same.new (o := .lst ((fs.take at'.toNat).map V.int ++ [.int x] ++ (fs.drop (at'.toNat + 1)).map V.int)) f2
    have N4 := Same.new (o := .tup [.ref p2, .str word]) fq
    exact k q p2 _ word _ (S2.trans (N1.trans (N2.trans (N3.trans N4)))) upd_same (by rw [← hset x]; exact N4 _ _ upd_same) (lset x) hw
  have sz1 : ((fs.take at'.toNat).map V.int).length + 1 ≤ sizeLine := by rw [List.length_map, List.length_take]; omega
  have sz2 : ∀ x : Int, ((fs.take at'.toNat).map V.int ++ [V.int x]).length + ((fs.drop (at'.toNat + 1)).map V.int).length ≤ sizeLine := fun x => by
    rw [List.length_append, List.length_map, List.length_map, List.length_take, List.length_drop]
    show _ + 1 + _ ≤ _
    omega
  refine ⟨_, rfl, rfl, _, rfl, ite2 (fun _ => ?_) (fun _ => ?_)⟩
  · refine ⟨_, rfl, _, rfl, _, rfl, _, _, rfl, rfl, (by show (0 : Int) < 2; decide), _, _, rfl, rfl, ⟨by decide, by decide, by decide⟩, _, _, rfl, rfl, .inl ⟨by show -(2 ^ 64) < nb / 48 % 2; omega, by show nb / 48 % 2 < 2 ^ 64; omega⟩, _, _, rfl, rfl, (by show 1 ≤ sizeLine; decide), fun p fp => ?_⟩
    refine ⟨pa, p, _, _, rfl, rfl, SqL.of ((Same.new fp) _ _ ea), SqL.of upd_same, sz1, fun p1 f1 => ⟨_, rfl, p1, pb, _, _, rfl, rfl, SqL.of upd_same, SqL.of (((Same.new fp).trans (Same.new f1)) _ _ eb), sz2 _, fun p2 f2 => ⟨two, fun q fq => ?_⟩⟩⟩
    refine fin _ "figure" (bad _ (.inr ?_)) p fp p1 f1 p2 f2 q fq
    have m0 : 0 ≤ nb / 48 % 2 := by omega
    have := Int.mul_nonneg m0 (show (0 : Int) ≤ 10 ^ (50 : Int).toNat by decide)
    show d ≤ d + nb / 48 % 2 * 10 ^ (50 : Int).toNat
    omega
  refine ⟨_, rfl, rfl, _, rfl, ite2 (fun _ => ?_) (fun _ => ?_)⟩
  · refine ⟨_, rfl, _, _, rfl, rfl, _, rfl, _, _, rfl, rfl, (by show (0 : Int) < 3; decide), _, _, rfl, rfl, (by show 1 ≤ sizeLine; decide), fun p fp => ?_⟩
    refine ⟨pa, p, _, _, rfl, rfl, SqL.of ((Same.new fp) _ _ ea), SqL.of upd_same, sz1, fun p1 f1 => ⟨_, rfl, p1, pb, _, _, rfl, rfl, SqL.of upd_same, SqL.of (((Same.new fp).trans (Same.new f1)) _ _ eb), sz2 _, fun p2 f2 => ⟨two, fun q fq => ?_⟩⟩⟩
    refine fin _ "figure" (bad _ (.inl ?_)) p fp p1 f1 p2 f2 q fq
    show 0 - 1 - nb / 48 % 3 < 0
    omega
  have e02 := S2 _ _ e0
  have e22 := S2 _ _ e2
  have last : Q = Q → ∀ q, H2 q = none → Q (.ref q) (upd H2 q (.tup [.ref l, .str ""])) := fun _ q fq => by
    have N := Same.new (o := .tup [.ref l, .str ""]) fq
    exact k q l fs "" _ (S2.trans N) upd_same (N _ _ el2) (by omega) (.inl ⟨rfl, hfs.symm⟩)
  refine ⟨_, rfl, _, _, rfl, rfl, _, rfl, ite2 (fun _ => ⟨_, rfl, t, _, _, _, rfl, rfl, SqT.of e02, rfl, t2, _, rfl, .inr (SqT.of e22), _, _, rfl, rfl, _, rfl, ite2 (fun hs => ?_) (fun _ => ?_)⟩) (fun _ => iteF ?_)⟩
  · have hs : spare ≠ [] := by
      rintro rfl
      have hs : (0 : Int) < (([] : List Int).map V.int).length := of_decide_eq_true hs
      exact absurd hs (by decide)
    have r0 : fs.getD at'.toNat 0 = n % d := by
      rw [← hfs, List.getD_eq_getElem?_getD, rests_get hd]; rfl
    have q0 : 0 ≤ nb / 48 % (d - 1) := Int.emod_nonneg _ (by omega)
    have q1 : nb / 48 % (d - 1) < d - 1 := Int.emod_lt_of_pos _ (by omega)
    have g0 : 0 ≤ n % d := Int.emod_nonneg _ (by omega)
    have g1 : n % d < d := Int.emod_lt_of_pos _ (by omega)
    have z0 : 0 ≤ (fs.getD at'.toNat 0 + 1 + nb / 48 % (d - 1)) % d := Int.emod_nonneg _ (by omega)
    have z1 : (fs.getD at'.toNat 0 + 1 + nb / 48 % (d - 1)) % d < d := Int.emod_lt_of_pos _ (by omega)
    refine ⟨_, rfl, _, rfl, l, _, _, _, rfl, rfl, SqL.of el2, atI_ints a0 (by omega), _, _, rfl, rfl, _, rfl, _, rfl, _, _, rfl, rfl, _, _, rfl, rfl, (by show 0 < d - 1; omega), _, _, rfl, rfl, _, rfl, _, _, rfl, rfl, (by show 0 < d; omega), ?_⟩
    refine ⟨_, rfl, _, rfl, (by show 1 ≤ sizeLine; decide), fun p fp => ?_⟩
    refine ⟨pa, p, _, _, rfl, rfl, SqL.of ((Same.new fp) _ _ ea), SqL.of upd_same, sz1, fun p1 f1 => ⟨_, rfl, p1, pb, _, _, rfl, rfl, SqL.of upd_same, SqL.of (((Same.new fp).trans (Same.new f1)) _ _ eb), sz2 _, fun p2 f2 => ⟨two, fun q fq => ?_⟩⟩⟩
    refine fin _ "wrong" (.inr (.inr ⟨rfl, ?_⟩)) p fp p1 f1 p2 f2 q fq
    have w := wrong_of_set gb hs hf hd z0 z1 (by rw [r0]; exact other_rest g0 g1 q0 q1)
    rw [hfs] at w
    exact w
  all_goals exact ⟨_, rfl, two, fun q fq => last rfl q fq⟩
end
end K16
set_option Elab.async false
set_option linter.all false
set_option maxRecDepth 100000
set_option maxHeartbeats 4000000
namespace K16
open PySem L2 RF
seal L2.PE L2.PA L2.PS L2.PSs L2.PT L2.PG L2.PI L2.PK L2.PO L2.PEx L2.PSx L2.PSxs L2.PH L2.PW L2.PGs L2.PSet L2.OpR L2.CallR L2.SlR L2.IxR
section
variable {P : Program} {w : World} {K : PySem.W.Frag} {mg : Str → Option Value} {base : Heap} {cR cT cB cW cD cP cA cU : Addr}
noncomputable abbrev s__law_class : Stmt := top 43
theorem sc__law_class : FnScope ["_law_caught", "_law_names", "_law_told"] ["_law_caught"] (defScope s__law_class) := ⟨rfl, rfl, rfl, by decide +kernel, rfl, by decide +kernel, by decide +kernel⟩
theorem b__law_class : BindsAll "_law_class" s__law_class ["_law_caught"] := binds1 fun _ _ _ _ _ _ _ => rfl
theorem ok_class (D : Def K mg "_law_class" s__law_class) (T : Txt K mg cR cT cB cW cD cP cA cU) : FnM P w K mg base "_law_class" ["_law_caught"] 1 (sp_class K cR cT cB cW cD cP cA cU) := by
  refine D.okM sc__law_class b__law_class sp1_len fun f cdv A outer s H vs Q hr h => ?_
  obtain ⟨_, rfl, ea, c, j, w', rfl, he, G, hw, k⟩ := h
  refine ⟨_, (pss_cons (ps_set (i := 1) sc__law_class.nd rfl (Or.inl rfl) (pe_lst (ac pe_str (ac pe_str (ac pe_str (ac pe_str (ac pe_str (ac pe_str (ac pe_str pa_nil)))))))))
      (pss_cons (ps_set (i := 2) sc__law_class.nd rfl (Or.inl rfl) (pe_lst (ac (cBi call_isiE (by rfl) T.isinstance PyProof.Rows.Boot.«isinstance» (ac (pv 0) (ac (pe_glob (v := .ref _) rfl T.TooGreat rfl) pa_nil))) (ac (cBi call_isiE (by rfl) T.isinstance PyProof.Rows.Boot.«isinstance» (ac (pv 0) (ac (pe_glob (v := .ref _) rfl T.BadFigure rfl) pa_nil))) (ac (cBi call_isiE (by rfl) T.isinstance PyProof.Rows.Boot.«isinstance» (ac (pv 0) (ac (pe_glob (v := .ref _) rfl T.Wrong rfl) pa_nil))) pa_nil)))))
      (pss_cons (ps_set (i := 2) sc__law_class.nd rfl (Or.inl rfl) (pe_op op0catS (pv 2) (pe_lst (ac (cBi call_isiE (by rfl) T.isinstance PyProof.Rows.Boot.«isinstance» (ac (pv 0) (ac (pe_glob (v := .ref _) rfl T.BadDivisor rfl) pa_nil))) (ac (cBi call_isiE (by rfl) T.isinstance PyProof.Rows.Boot.«isinstance» (ac (pv 0) (ac (pe_glob (v := .ref _) rfl T.BadPlace rfl) pa_nil))) (ac (cBi call_isiE (by rfl) T.isinstance PyProof.Rows.Boot.«isinstance» (ac (pv 0) (ac (pe_glob (v := .ref _) rfl T.BadBase rfl) pa_nil))) pa_nil))))))
      (pss_cons (ps_expr (pe_bm PySem.F.plainAttrs_list PySem.F.slot_list_append PySem.F.type_list_append mt_append (pv 2) (ac (cBi call_isiE (by rfl) T.isinstance PyProof.Rows.Boot.«isinstance» (ac (pv 0) (ac (pe_glob (v := .ref _) rfl T.Unlike rfl) pa_nil))) pa_nil)))
      (pss_cons (ps_if (PW.pt (pw_or (pt_cmpR op_ne (pe_bm PySem.F.plainAttrs_list PySem.F.slot_list_count PySem.F.type_list_count mt_count (pv 2) (ac pe_bl pa_nil)) pe_int (nomark _)) (pw_or1 (pt_not (pt_val (cBi call_isiE (by rfl) T.isinstance PyProof.Rows.Boot.«isinstance» (ac (pv 0) (ac (pe_ty rfl T.ValueError PyProof.Rows.Boot.«ValueError») pa_nil))))))))
        (pss_one (ps_ret pe_str))
        pss_nil)
      (pss_one (ps_ret (pe_ix ix0L (pv 1) (pe_bm PySem.F.plainAttrs_list PySem.F.slot_list_index PySem.F.type_list_index mt_index (pv 2) (ac pe_bl pa_nil)) (fun _ _ => rfl))))))))), ?_⟩
  try (set_option simprocs false in dsimp only [cxOf])
  refine ⟨(by show 7 ≤ sizeLine; decide), fun pn fn => ?_⟩
  have N0 := Same.new (o := .lst (theWords.map V.str)) fn
  have h0 := N0 _ _ he
  refine ⟨_, rfl, ea, c, none, _, _, _, rfl, .inr ⟨_, rfl, rfl⟩, h0, G.g, G.k0, _, rfl, ea, c, none, _, _, _, rfl, .inr ⟨_, rfl, rfl⟩, h0, G.g, G.k1, _, rfl, ea, c, none, _, _, _, rfl, .inr ⟨_, rfl, rfl⟩, h0, G.g, G.k2, (by show 3 ≤ sizeLine; decide), fun p1 f1 => ?_⟩
  have N1 := Same.new (o := .lst [.bl (decide (j = 0)), .bl (decide (j = 1)), .bl (decide (j = 2))]) f1
  have h1 := N1 _ _ h0
  refine ⟨_, rfl, _, rfl, ea, c, none, _, _, _, rfl, .inr ⟨_, rfl, rfl⟩, h1, G.g, G.k3, _, rfl, ea, c, none, _, _, _, rfl, .inr ⟨_, rfl, rfl⟩, h1, G.g, G.k4, _, rfl, ea, c, none, _, _, _, rfl, .inr ⟨_, rfl, rfl⟩, h1, G.g, G.k5, (by show 3 ≤ sizeLine; decide), fun p2 f2 => ?_⟩
  have N2 := Same.new (o := .lst [.bl (decide (j = 3)), .bl (decide (j = 4)), .bl (decide (j = 5))]) f2
  refine ⟨p1, p2, _, _, rfl, rfl, SqL.of (N2 _ _ upd_same), SqL.of upd_same, (by show 3 + 3 ≤ sizeLine; decide), fun p3 f3 => ?_⟩
  have N3 := Same.new (o := .lst ([.bl (decide (j = 0)), .bl (decide (j = 1)), .bl (decide (j = 2))] ++ [.bl (decide (j = 3)), .bl (decide (j = 4)), .bl (decide (j = 5))])) f3
  have A3 := N1.trans (N2.trans N3)
  have h3 := A3 _ _ h0
  refine ⟨_, rfl, .inl ⟨rfl, _, SqL.of upd_same⟩, _, rfl, ea, c, none, _, _, _, rfl, .inr ⟨_, rfl, rfl⟩, h3, G.g, G.k6, p3, _, _, rfl, rfl, upd_same, (by show 6 < sizeLine; decide), ?_⟩
  have hj : j < 7 := (List.getElem?_eq_some_iff.mp hw).1
  have S3 := (N0.trans A3).upd (o := .lst (toldL j)) ((N0.trans (N1.trans N2)).free f3)
  have h4 := (A3.upd (o := .lst (toldL j)) ((N1.trans N2).free f3)) _ _ h0
  have en := (A3.upd (o := .lst (toldL j)) ((N1.trans N2).free f3)) _ _ (upd_same : upd H pn (.lst (theWords.map V.str)) pn = _)
  refine ⟨_, rfl, .inl ⟨rfl, _, SqL.of upd_same⟩, p3, toldL j, _, rfl, rfl, upd_same, rfl, rfl, rfl, _, rfl, iteNS (by rw [toldL_count hj]; rfl) ?_⟩
  refine ⟨_, rfl, ea, c, none, _, _, _, rfl, .inl ⟨"ValueError", rfl, rfl⟩, h4, G.g, G.v, _, rfl, iteF ?_⟩
  exact ⟨_, rfl, _, rfl, .inl ⟨rfl, _, SqL.of upd_same⟩, p3, toldL j, _, j, rfl, rfl, upd_same, rfl, rfl, toldL_hit hj, fun m z hm hz => toldL_no hm hz, pn, _, _, _, rfl, rfl, SqL.of en, words_at hw, k _ S3⟩
structure Cs (K : PySem.W.Frag) (cR cT cB cW cD cP cA cU : Addr) : Prop where
  t : IsC K cR cT cB cW cD cP cA cU cT 0
  b : IsC K cR cT cB cW cD cP cA cU cB 1
  w : IsC K cR cT cB cW cD cP cA cU cW 2
  u : IsC K cR cT cB cW cD cP cA cU cU 6
theorem Cs.fig (G : Cs K cR cT cB cW cD cP cA cU) : WordC K cR cT cB cW cD cP cA cU "figure" cB := ⟨1, G.b, rfl⟩
theorem Cs.wrong (G : Cs K cR cT cB cW cD cP cA cU) : WordC K cR cT cB cW cD cP cA cU "wrong" cW := ⟨2, G.w, rfl⟩
theorem Cs.great (G : Cs K cR cT cB cW cD cP cA cU) : WordC K cR cT cB cW cD cP cA cU "great" cT := ⟨0, G.t, rfl⟩
theorem Cs.unlike (G : Cs K cR cT cB cW cD cP cA cU) : WordC K cR cT cB cW cD cP cA cU "unlike" cU := ⟨6, G.u, rfl⟩
noncomputable abbrev s_sum_of_products : Stmt := top 33
theorem sc_sum_of_products : FnScope ["ones", "others"] ["ones", "others"] (defScope s_sum_of_products) := ⟨rfl, rfl, rfl, by decide +kernel, rfl, by decide +kernel, by decide +kernel⟩
theorem b_sum_of_products : BindsAll "sum_of_products" s_sum_of_products ["ones", "others"] := binds2 fun _ _ _ _ _ _ _ _ => rfl
theorem ok_dot (D : Def K mg "sum_of_products" s_sum_of_products) (T : Txt K mg cR cT cB cW cD cP cA cU) : FnS P w K mg base "sum_of_products" ["ones", "others"] 1 sp_dot := by
  refine D.ok sc_sum_of_products b_sum_of_products sp2_len fun f cdv A outer s H vs Q E hr h => ?_
  obtain ⟨_, _, rfl, p, q, xs, ys, rfl, rfl, ep, eq, hl, h200, bx, bY, k⟩ := h
  refine ⟨_, (pss_one (ps_ret (cBi (call_sumL rfl) (by rfl) T.sum PyProof.Rows.Boot.«sum» (ac (pe_comp (lv := 2) (caps := []) (N' := ["one", "other"]) rfl (CompOk.alone rfl (by decide +kernel) (by decide +kernel) rfl) (keep_two (by decide) (by decide)) (pi_zip .L .L rfl T.zip (ac (pv 0) (ac (pv 1) pa_nil))) (fun _ _ _ _ => pg_tupK (n := 2) K rfl (pgs_cons (pg_name (i := 0) (show (["one", "other"] : List Str).Nodup by decide +kernel) rfl (Or.inl rfl)) (pgs_cons (pg_name (i := 1) (show (["one", "other"] : List Str).Nodup by decide +kernel) rfl (Or.inl rfl)) pgs_nil))) (fun _ _ _ _ => (pe_op op_mulB (pv 0) (pv 1)))) pa_nil)))), ?_⟩
  try (set_option simprocs false in dsimp only [cxOf])
  refine ⟨_, rfl, _, rfl, p, q, rfl, ⟨_, SqL.of ep⟩, ⟨_, SqL.of eq⟩, comp_zip (K := K) (k1 := .L) (k2 := .L) (SqL.of ep) (SqL.of eq) (by rw [List.length_map, List.length_map, hl]) ?_ (fun i => V.int (xs.getD i 0 * ys.getD i 0)) ?_ ?_⟩
  · rw [List.length_map]; exact Nat.lt_of_le_of_lt h200 (by decide)
  · intro i x y hx hy pp H' Q' S epp q'
    obtain ⟨a, ha, rfl⟩ := ints_at hx
    obtain ⟨b, hb, rfl⟩ := ints_at hy
    have h1 := bx a (List.mem_of_getElem? ha)
    have h2 := bY b (List.mem_of_getElem? hb)
    have e1 : xs.getD i 0 = a := by rw [List.getD_eq_getElem?_getD, ha]; rfl
    have e2 : ys.getD i 0 = b := by rw [List.getD_eq_getElem?_getD, hb]; rfl
    rw [e1, e2] at q'
    exact ⟨pp, _, rfl, SqT.of epp, rfl, _, _, rfl, _, _, rfl, rfl, _, rfl, _, rfl, _, _, rfl, rfl, ⟨h1, h2⟩, q' _ (Same.refl _)⟩
  · intro Dd H' hD S e
    rw [List.length_map, dot_range hl] at e
    exact ⟨Dd, _, rfl, SqL.of e, k H' S⟩
inductive Tab (H : Hp) : List Addr → List (List Addr) → List (List (List Int)) → Prop
  | nil : Tab H [] [] []
  | cons {r : Addr} {as : List Addr} {fs : List (List Int)} {rs : List Addr} {ass : List (List Addr)} {fss : List (List (List Int))} (h : H r = some (.lst (as.map V.ref))) (h' : Figs H as fs) (t : Tab H rs ass fss) : Tab H (r :: rs) (as :: ass) (fs :: fss)
theorem Tab.up {H H' : Hp} {rs : List Addr} {ass : List (List Addr)} {fss : List (List (List Int))} (h : Tab H rs ass fss) (S : Same H H') : Tab H' rs ass fss := by
  induction h with
  | nil => exact .nil
  | cons h h' _ ih => exact .cons (S _ _ h) (h'.up S) ih
theorem Tab.len {H : Hp} {rs : List Addr} {ass : List (List Addr)} {fss : List (List (List Int))} (h : Tab H rs ass fss) : rs.length = fss.length := by
  induction h with
  | nil => rfl
  | cons _ _ _ ih => exact congrArg (· + 1) ih
theorem Tab.get {H : Hp} {rs : List Addr} {ass : List (List Addr)} {fss : List (List (List Int))} (h : Tab H rs ass fss) : ∀ {i : Nat} {r : Addr}, rs[i]? = some r → ∃ as fs, ass[i]? = some as ∧ fss[i]? = some fs ∧ H r = some (.lst (as.map V.ref)) ∧ Figs H as fs := by
  induction h with
  | nil => intro i r e; cases e
  | cons h h' _ ih =>
    intro i r e
    cases i with
    | zero => cases e; exact ⟨_, _, rfl, rfl, h, h'⟩
    | succ i => exact ih (i := i) e
theorem Tab.append {H : Hp} {rs rs' : List Addr} {ass ass' : List (List Addr)} {fss fss' : List (List (List Int))} (h : Tab H rs ass fss) (h' : Tab H rs' ass' fss') : Tab H (rs ++ rs') (ass ++ ass') (fss ++ fss') := by
  induction h with
  | nil => exact h'
  | cons a b _ ih => exact .cons a b ih
noncomputable def Like (R1 R2 : List (List (List Int))) : Prop := (∀ r ∈ R1, r.length = R2.length) ∧ ∀ r ∈ R2, r.length = (R2.headD []).length
inductive isp_runl (cU : Addr) (a b : V) (H : Hp) (Q : VK) (E : XK) : Prop
  | mk (l1 l2 : Addr) (rs rs' : List Addr) (ass ass' : List (List Addr)) (R1 R2 : List (List (List Int))) (h0 : a = .ref l1) (h1 : b = .ref l2) (e1 : H l1 = some (.lst (rs.map V.ref))) (e2 : H l2 = some (.lst (rs'.map V.ref))) (t1 : Tab H rs ass R1) (t2 : Tab H rs' ass' R2)
      (yes : Like R1 R2 → Q .non H) (no : ¬ Like R1 R2 → E (.ref cU) none H) : isp_runl cU a b H Q E
noncomputable def sp_runl (cU : Addr) : Sp := Sp2 (isp_runl cU)
theorem ne_lens {a b : Nat} (h : (!decide (V.int (a : Int) = V.int (b : Int))) = true) : a ≠ b := fun e => by
  rw [e, decide_eq_true rfl] at h; cases h
theorem eq_lens {a b : Nat} (h : (!decide (V.int (a : Int) = V.int (b : Int))) = false) : a = b := by
  by_cases e : a = b
  · exact e
  · rw [decide_eq_false (fun z => e (by have := V.int.inj z; omega))] at h; cases h
theorem iteE {c : Bool} {A B : Prop} (h1 : c = true → A) (h2 : c = false → B) : if c = true then A else B := by
  cases c
  · rw [if_neg Bool.false_ne_true]; exact h2 rfl
  · rw [if_pos rfl]; exact h1 rfl
noncomputable abbrev s_refuse_unlike_tables : Stmt := top 29
theorem sc_refuse_unlike_tables : FnScope ["one", "other", "row"] ["one", "other"] (defScope s_refuse_unlike_tables) := ⟨rfl, rfl, rfl, by decide +kernel, rfl, by decide +kernel, by decide +kernel⟩
theorem b_refuse_unlike_tables : BindsAll "refuse_unlike_tables" s_refuse_unlike_tables ["one", "other"] := binds2 fun _ _ _ _ _ _ _ _ => rfl
theorem ok_runl (D : Def K mg "refuse_unlike_tables" s_refuse_unlike_tables) (T : Txt K mg cR cT cB cW cD cP cA cU) : FnS P w K mg base "refuse_unlike_tables" ["one", "other"] 1 (sp_runl cU) := by
  refine D.ok sc_refuse_unlike_tables b_refuse_unlike_tables sp2_len fun f cdv A outer s H vs Q E hr h => ?_
  obtain ⟨_, _, rfl, l1, l2, rs, rs', ass, ass', R1, R2, rfl, rfl, e1, e2, t1, t2, yes, no⟩ := h
  refine ⟨_, (pss_cons (ps_for own_pass rfl (pi_list (pv 0)) (pg_name (i := 2) sc_refuse_unlike_tables.nd rfl (Or.inl rfl))
        (pss_one (ps_if (pt_cmpR op_ne (cBi call0len (by rfl) T.len PyProof.Rows.Boot.«len» (ac (pv 2) pa_nil)) (cBi call0len (by rfl) T.len PyProof.Rows.Boot.«len» (ac (pv 1) pa_nil)) (nomark _))
          (pss_one (ps_raise T.x_Unlike T.Unlike (ac pe_str pa_nil)))
          pss_nil)))
      (pss_one (ps_for own_pass rfl (pi_list (pv 1)) (pg_name (i := 2) sc_refuse_unlike_tables.nd rfl (Or.inl rfl))
        (pss_one (ps_if (pt_cmpR op_ne (cBi call0len (by rfl) T.len PyProof.Rows.Boot.«len» (ac (pv 2) pa_nil)) (cBi call0len (by rfl) T.len PyProof.Rows.Boot.«len» (ac (pe_ix ix0L (pv 1) pe_int (fun _ _ => rfl)) pa_nil)) (nomark _))
          (pss_one (ps_raise T.x_Unlike T.Unlike (ac pe_str pa_nil)))
          pss_nil))))), ?_⟩
  try (set_option simprocs false in dsimp only [cxOf])
  refine ⟨_, rfl, l1, rfl, ⟨_, SqL.of e1⟩, for_list (K := K) (xs := rs.map V.ref) (fun i σ H' => H' = H ∧ (∃ y : Option V, σ = [some (.ref l1), some (.ref l2), y]) ∧ ∀ (j : Nat) fs, j < i → R1[j]? = some fs → fs.length = R2.length)
    ⟨rfl, ⟨_, rfl⟩, fun j _ h => absurd h (Nat.not_lt_zero j)⟩ (fun i σ H' _ hh => hh.1 ▸ SqL.of e1) ?_ ?_⟩
  · rintro i x σ H' hx ⟨rfl, ⟨y, rfl⟩, g⟩
    obtain ⟨r, hr', rfl⟩ := refs_at hx
    obtain ⟨as, fs, _, hf, er, F⟩ := t1.get hr'
    refine ⟨_, rfl, r, _, rfl, .inl (SqL.of er), _, rfl, l2, _, rfl, .inl (SqL.of e2), rfl, _, rfl, ?_⟩
    rw [List.length_map, List.length_map, F.len, t2.len]
    refine iteE (fun h => ?_) (fun h => ?_)
    · exact ⟨by decide, no fun L => ne_lens h (L.1 fs (List.mem_of_getElem? hf))⟩
    · refine ⟨rfl, ⟨_, rfl⟩, fun j fs' hj hf' => ?_⟩
      rcases Nat.lt_or_ge j i with h' | h'
      · exact g j fs' h' hf'
      · have : j = i := by omega
        rw [this, hf] at hf'; cases hf'
        exact eq_lens h
  rintro σ H' ⟨rfl, ⟨y, rfl⟩, g⟩
  have g1 : ∀ r ∈ R1, r.length = R2.length := fun r hr' => by
    obtain ⟨j, hj⟩ := List.getElem?_of_mem hr'
    refine g j r ?_ hj
    rw [List.length_map, t1.len]
    exact (List.getElem?_eq_some_iff.mp hj).1
  clear g
  refine ⟨_, rfl, l2, rfl, ⟨_, SqL.of e2⟩, for_list (K := K) (xs := rs'.map V.ref) (fun i σ H1 => H1 = H' ∧ (∃ y : Option V, σ = [some (.ref l1), some (.ref l2), y]) ∧ ∀ (j : Nat) fs, j < i → R2[j]? = some fs → fs.length = (R2.headD []).length)
    ⟨rfl, ⟨_, rfl⟩, fun j _ h => absurd h (Nat.not_lt_zero j)⟩ (fun i σ H1 _ hh => hh.1 ▸ SqL.of e2) ?_ ?_⟩
  · rintro i x σ H1 hx ⟨rfl, ⟨y, rfl⟩, g⟩
    obtain ⟨r, hr', rfl⟩ := refs_at hx
    obtain ⟨as, fs, _, hf, er, F⟩ := t2.get hr'
    have h0 : 0 < rs'.length := Nat.lt_of_le_of_lt (Nat.zero_le _) (List.getElem?_eq_some_iff.mp hr').1
    have hz := List.getElem?_eq_getElem h0
    generalize rs'[0] = r0 at hz
    obtain ⟨as0, fs0, _, hf0, er0, F0⟩ := t2.get hz
    have hat : atI (rs'.map V.ref) 0 = some (.ref r0) := atI_nat (j := 0) (xs := rs'.map V.ref) (by rw [List.getElem?_map, hz]; rfl)
    have hd0 : R2.headD [] = fs0 := by
      cases R2 with
      | nil => cases hf0
      | cons a b => cases hf0; rfl
    refine ⟨_, rfl, r, _, rfl, .inl (SqL.of er), _, rfl, l2, _, _, _, rfl, rfl, SqL.of e2, hat, r0, _, rfl, .inl (SqL.of er0), rfl, _, rfl, ?_⟩
    rw [List.length_map, List.length_map, F.len, F0.len]
    refine iteE (fun h => ?_) (fun h => ?_)
    · exact ⟨by decide, no fun L => ne_lens h (by rw [← hd0]; exact L.2 fs (List.mem_of_getElem? hf))⟩
    · refine ⟨rfl, ⟨_, rfl⟩, fun j fs' hj hf' => ?_⟩
      rcases Nat.lt_or_ge j i with h' | h'
      · exact g j fs' h' hf'
      · have : j = i := by omega
        rw [this, hf] at hf'; cases hf'
        rw [hd0]
        exact eq_lens h
  rintro σ H1 ⟨rfl, ⟨y, rfl⟩, g⟩
  refine yes ⟨g1, fun r hr' => ?_⟩
  obtain ⟨j, hj⟩ := List.getElem?_of_mem hr'
  refine g j r ?_ hj
  rw [List.length_map, t2.len]
  exact (List.getElem?_eq_some_iff.mp hj).1
inductive isp_figsin (a : V) (H : Hp) (Q : VK) (E : XK) : Prop
  | mk (l : Addr) (rs : List Addr) (ass : List (List Addr)) (R : List (List (List Int))) (h0 : a = .ref l) (e : H l = some (.lst (rs.map V.ref))) (t : Tab H rs ass R) (hs : ∀ i, (ass.take i).flatten.length ≤ 1000)
      (q : ∀ lf H', Same H H' → H' lf = some (.lst (ass.flatten.map V.ref)) → Figs H' ass.flatten R.flatten → Q (.ref lf) H') : isp_figsin a H Q E
noncomputable def sp_figsin : Sp := Sp1 isp_figsin
theorem Tab.flat {H : Hp} {rs : List Addr} {ass : List (List Addr)} {fss : List (List (List Int))} (h : Tab H rs ass fss) : Figs H ass.flatten fss.flatten := by
  induction h with
  | nil => exact .nil
  | cons _ h' _ ih => exact h'.append ih
theorem Tab.len2 {H : Hp} {rs : List Addr} {ass : List (List Addr)} {fss : List (List (List Int))} (h : Tab H rs ass fss) : rs.length = ass.length := by
  induction h with
  | nil => rfl
  | cons _ _ _ ih => exact congrArg (· + 1) ih
noncomputable abbrev s_figures_in : Stmt := top 30
theorem sc_figures_in : FnScope ["rows", "figures", "row"] ["rows"] (defScope s_figures_in) := ⟨rfl, rfl, rfl, by decide +kernel, rfl, by decide +kernel, by decide +kernel⟩
theorem b_figures_in : BindsAll "figures_in" s_figures_in ["rows"] := binds1 fun _ _ _ _ _ _ _ => rfl
theorem ok_figsin (D : Def K mg "figures_in" s_figures_in) : FnS P w K mg base "figures_in" ["rows"] 1 sp_figsin := by
  refine D.ok sc_figures_in b_figures_in sp1_len fun f cdv A outer s H vs Q E hr h => ?_
  obtain ⟨_, rfl, l, rs, ass, R, rfl, e, t, hs, q⟩ := h
  refine ⟨_, (pss_cons (ps_set (i := 1) sc_figures_in.nd rfl (Or.inl rfl) (pe_lst pa_nil))
      (pss_cons (ps_for own_pass rfl (pi_list (pv 0)) (pg_name (i := 2) sc_figures_in.nd rfl (Or.inl rfl))
        (pss_one (ps_expr (pe_bm PySem.F.plainAttrs_list PySem.F.slot_list_extend PySem.F.type_list_extend mt_extend (pv 1) (ac (pv 2) pa_nil)))))
      (pss_one (ps_ret (pv 1))))), ?_⟩
  try (set_option simprocs false in dsimp only [cxOf])
  have s2000 : (2000 : Nat) ≤ sizeLine := by decide
  refine ⟨by decide, fun lf ff => ?_⟩
  have N := Same.new (o := .lst []) ff
  refine ⟨_, rfl, l, rfl, ⟨_, SqL.of (N _ _ e)⟩, for_list (K := K) (xs := rs.map V.ref) (fun i σ H' => ∃ y : Option V, σ = [some (.ref l), some (.ref lf), y] ∧ Same H H' ∧ H' lf = some (.lst ((ass.take i).flatten.map V.ref)))
    ⟨_, rfl, N, upd_same⟩ (fun i σ H' _ ⟨_, _, S, _⟩ => SqL.of (S _ _ e)) ?_ ?_⟩
  rotate_left
  · rintro σ H' ⟨y, rfl, S, el⟩
    have el : H' lf = some (.lst ((ass.take (rs.map V.ref).length).flatten.map V.ref)) := el
    rw [List.length_map, t.len2, List.take_length] at el
    exact ⟨_, rfl, q lf H' S el (t.up S).flat⟩
  rintro i x σ H' hx ⟨y, rfl, S, el⟩
  obtain ⟨r, hr', rfl⟩ := refs_at hx
  obtain ⟨as, fs, ha, _, er, _⟩ := t.get hr'
  have tk : ass.take (i + 1) = ass.take i ++ [as] := by rw [List.take_add_one, ha]; rfl
  have h1 := hs (i + 1)
  rw [tk, List.flatten_append, List.length_append] at h1
  have h2 : ([as] : List (List Addr)).flatten = as := by simp
  rw [h2] at h1
  refine ⟨_, rfl, .inl ⟨rfl, _, SqL.of el⟩, _, rfl, lf, r, _, _, rfl, rfl, el, S _ _ er, by rw [List.length_map, List.length_map]; omega, ?_⟩
  exact ⟨_, rfl, S.upd ff, by rw [upd_same, tk, List.flatten_append, h2, List.map_append]⟩
end
end K16
set_option Elab.async false
set_option linter.all false
set_option maxRecDepth 100000
set_option maxHeartbeats 4000000
namespace K16
open PySem L2 RF
seal L2.PE L2.PA L2.PS L2.PSs L2.PT L2.PG L2.PI L2.PK L2.PO L2.PEx L2.PSx L2.PSxs L2.PH L2.PW L2.PGs L2.PSet L2.OpR L2.CallR L2.SlR L2.IxR
section
variable {P : Program} {w : World} {K : PySem.W.Frag} {mg : Str → Option Value} {base : Heap} {cR cT cB cW cD cP cA cU : Addr}
noncomputable def colOf (rows : List (List Int)) (j : Nat) : List Int := rows.map fun r => r.getD j 0
noncomputable def pickJ (H : Hp) (j : Nat) : V → V
  | .ref a => match H a with
    | some (.lst xs) => xs.getD j .non
    | _ => .non
  | _ => .non
theorem pickJ_at {H : Hp} {j : Nat} {a : Addr} {ns : List Int} (h : H a = some (.lst (ns.map V.int))) (hj : j < ns.length) : pickJ H j (.ref a) = .int (ns.getD j 0) := by
  simp only [pickJ, h]
  rw [List.getD_eq_getElem?_getD, List.getD_eq_getElem?_getD, List.getElem?_map, List.getElem?_eq_getElem hj]
  rfl
theorem pickJ_all {H : Hp} {j : Nat} {n : Nat} (hj : j < n) {as : List Addr} {rows : List (List Int)} (F : Figs H as rows) (hn : ∀ r ∈ rows, r.length = n) : (as.map V.ref).map (pickJ H j) = (colOf rows j).map V.int := by
  induction F with
  | nil => rfl
  | cons h t ih =>
    have := ih fun r hr => hn r (List.mem_cons_of_mem _ hr)
    unfold colOf at this ⊢
    rw [List.map_cons, List.map_cons, List.map_cons, List.map_cons, this, pickJ_at h (by rw [hn _ List.mem_cons_self]; exact hj)]
inductive isp_cols (a : V) (H : Hp) (Q : VK) (E : XK) : Prop
  | mk (l : Addr) (rs : List Addr) (rows : List (List Int)) (n : Nat) (h0 : a = .ref l) (e : H l = some (.lst (rs.map V.ref))) (F : Figs H rs rows) (hn : ∀ r ∈ rows, r.length = n) (h1 : 1 ≤ rows.length) (h2 : rows.length ≤ 100) (h3 : n ≤ 100)
      (q : ∀ lc cs H', Same H H' → H' lc = some (.lst (cs.map V.ref)) → Figs H' cs ((List.range n).map (colOf rows)) → Q (.ref lc) H') : isp_cols a H Q E
noncomputable def sp_cols : Sp := Sp1 isp_cols
theorem Figs.snoc {H : Hp} {as : List Addr} {fs : List (List Int)} {a : Addr} {f : List Int} (h : Figs H as fs) (ha : H a = some (.lst (f.map V.int))) : Figs H (as ++ [a]) (fs ++ [f]) := h.append (.cons ha .nil)
noncomputable abbrev s_columns_of : Stmt := top 31
theorem sc_columns_of : FnScope ["rows", "columns", "place"] ["rows"] (defScope s_columns_of) := ⟨rfl, rfl, rfl, by decide +kernel, rfl, by decide +kernel, by decide +kernel⟩
theorem b_columns_of : BindsAll "columns_of" s_columns_of ["rows"] := binds1 fun _ _ _ _ _ _ _ => rfl
theorem ok_cols (D : Def K mg "columns_of" s_columns_of) (T : Txt K mg cR cT cB cW cD cP cA cU) : FnS P w K mg base "columns_of" ["rows"] 1 sp_cols := by
  refine D.ok sc_columns_of b_columns_of sp1_len fun f cdv A outer s H vs Q E hr h => ?_
  obtain ⟨_, rfl, l, rs, rows, n, rfl, e, F, hn, h1, h2, h3, q⟩ := h
  refine ⟨_, (pss_cons (ps_set (i := 1) sc_columns_of.nd rfl (Or.inl rfl) (pe_lst pa_nil))
      (pss_cons (ps_for own_pass rfl (pi_range1 rfl T.range (ac (pe_maxD (by rfl) T.max (pe_comp (lv := 1) (caps := []) (N' := ["row"]) rfl (CompOk.alone rfl (by decide +kernel) (by decide +kernel) rfl) (keep_name (by decide)) (pi_list (pv 0)) (fun _ _ _ _ => pg_name (i := 0) (show (["row"] : List Str).Nodup by decide +kernel) rfl (Or.inl rfl)) (fun _ _ _ _ => (cBi call0len (by rfl) T.len PyProof.Rows.Boot.«len» (ac (pv 0) pa_nil)))) pe_int) pa_nil)) (pg_name (i := 2) sc_columns_of.nd rfl (Or.inr rfl))
        (pss_one (ps_expr (pe_bm PySem.F.plainAttrs_list PySem.F.slot_list_append PySem.F.type_list_append mt_append (pv 1) (ac (pe_comp (lv := 1) (caps := [2]) (N' := ["row", "place"]) rfl (CompOk.caps (sc := defScope s_columns_of) rfl (by decide +kernel) (by decide +kernel) (by decide +kernel) rfl rfl (compcap1 rfl rfl rfl)) (keep_name (by decide)) (pi_list (pv 0)) (fun _ _ _ _ => pg_name (i := 0) (show (["row", "place"] : List Str).Nodup by decide +kernel) rfl (Or.inl rfl)) (fun _ _ _ _ => (pe_ix ix0L (pv 0) (pv 1) (fun _ _ => rfl)))) pa_nil)))))
      (pss_one (ps_ret (pv 1))))), ?_⟩
  try (set_option simprocs false in dsimp only [cxOf])
  have s2000 : (2000 : Nat) ≤ sizeLine := by decide
  have rl := F.len
  refine ⟨by decide, fun lc fc => ?_⟩
  have N := Same.new (o := .lst []) fc
  refine ⟨_, rfl, l, rfl, ⟨_, SqL.of (N _ _ e)⟩, comp_L (K := K) (xs := rs.map V.ref) (SqL.of (N _ _ e)) (by rw [List.length_map]; omega) (fun _ => V.int (n : Int)) ?_ ?_⟩
  · intro x hx H' Q' S q'
    obtain ⟨r, hr', rfl⟩ := List.mem_map.mp hx
    obtain ⟨i, hi⟩ := List.getElem?_of_mem hr'
    obtain ⟨ns, hns, er⟩ := F.get hi
    refine ⟨_, rfl, r, _, rfl, .inl (SqL.of ((N.trans S) _ _ er)), ?_⟩
    rw [List.length_map, hn ns (List.mem_of_getElem? hns)]
    exact q' _ (Same.refl _)
  intro D1 H1 hD1 S1 e1
  have em : (rs.map V.ref).map (fun _ => V.int (n : Int)) = (rs.map fun _ => (n : Int)).map V.int := by rw [List.map_map, List.map_map]; rfl
  rw [em] at e1
  refine ⟨D1, rs.map fun _ => (n : Int), 0, rfl, rfl, SqL.of e1, fun m _ hm => ?_⟩
  have hne : (rs.map fun _ => (n : Int)) ≠ [] := fun z => by rw [List.map_eq_nil_iff] at z; rw [z] at rl; simp at rl; omega
  obtain ⟨z, _, ez⟩ := List.mem_map.mp (hm hne).1
  cases ez
  have S01 := N.trans S1
  refine ⟨_, rfl, by omega, by omega, for_range (lo := 0) (n := n) (fun j σ H' => ∃ (y : Option V) (cs : List Addr), σ = [some (.ref l), some (.ref lc), y] ∧ Same H H' ∧ H' lc = some (.lst (cs.map V.ref)) ∧ Figs H' cs ((List.range j).map (colOf rows)) ∧ ∀ c ∈ cs, c ≠ lc)
    ⟨_, [], rfl, S01, S1 _ _ upd_same, .nil, fun _ z => nomatch z⟩ ?_ ?_⟩
  rotate_left
  · rintro σ H' ⟨y, cs, rfl, S, el, FC, _⟩
    exact ⟨_, rfl, q lc cs H' S el FC⟩
  rintro j σ H' hj ⟨y, cs, rfl, S, el, FC, nc⟩
  have cl : cs.length = j := by rw [FC.len, List.length_map, List.length_range]
  refine ⟨_, rfl, .inl ⟨rfl, _, SqL.of el⟩, _, rfl, l, rfl, ⟨_, SqL.of (S _ _ e)⟩, comp_L (K := K) (xs := rs.map V.ref) (SqL.of (S _ _ e)) (by rw [List.length_map]; omega) (pickJ H j) ?_ ?_⟩
  · intro x hx H2 Q' S2 q'
    obtain ⟨r, hr', rfl⟩ := List.mem_map.mp hx
    obtain ⟨i, hi⟩ := List.getElem?_of_mem hr'
    obtain ⟨ns, hns, er⟩ := F.get hi
    have nl := hn ns (List.mem_of_getElem? hns)
    rw [pickJ_at er (by omega)] at q'
    have hat := atI_ints (ns := ns) (i := 0 + (j : Int)) (by omega) (by omega)
    rw [show (0 + (j : Int)).toNat = j by omega] at hat
    exact ⟨_, rfl, _, rfl, r, _, _, _, rfl, rfl, SqL.of ((S.trans S2) _ _ er), hat, q' _ (Same.refl _)⟩
  intro D2 H2 hD2 S2 e2
  rw [pickJ_all hj F hn] at e2
  have nd : D2 ≠ lc := fun z => by rw [z, el] at hD2; cases hD2
  refine ⟨lc, _, _, rfl, rfl, S2 _ _ el, by rw [List.length_map]; omega, ?_⟩
  refine ⟨_, cs ++ [D2], rfl, (S.trans S2).upd fc, by rw [upd_same, List.map_append]; rfl, ?_, fun c hc => ?_⟩
  · rw [List.range_succ, List.map_append]
    refine Figs.but (D := lc) (H := H2) (fun b o hb eo => by rw [upd_ne hb]; exact eo) (K16.Figs.snoc (FC.up S2) e2) fun z => ?_
    rcases List.mem_append.mp z with z | z
    · exact nc lc z rfl
    · exact nd (List.mem_singleton.mp z).symm
  · rcases List.mem_append.mp hc with hc | hc
    · exact nc c hc
    · rw [List.mem_singleton.mp hc]; exact nd
end
end K16
set_option Elab.async false
set_option linter.all false
set_option maxRecDepth 100000
set_option maxHeartbeats 4000000
namespace K16
open PySem L2 RF
seal L2.PE L2.PA L2.PS L2.PSs L2.PT L2.PG L2.PI L2.PK L2.PO L2.PEx L2.PSx L2.PSxs L2.PH L2.PW L2.PGs L2.PSet L2.OpR L2.CallR L2.SlR L2.IxR
section
variable {P : Program} {w : World} {K : PySem.W.Frag} {mg : Str → Option Value} {base : Heap} {cR cT cB cW cD cP cA cU : Addr}
noncomputable def prodR (kept spare : List Int) (ns : List Int) (cols : List (List Int)) : List (List Int) := cols.map fun c => rests (kept ++ spare) (dot ns c)
structure FreshF (H H' : Hp) (D : Addr) (as : List Addr) (fs : List (List Int)) : Prop where
  figs : Figs H' as fs
  new : ∀ a ∈ as, H a = none ∧ a ≠ D
  nd : as.Nodup
theorem FreshF.push {H H' H3 : Hp} {D l : Addr} {as : List Addr} {fs : List (List Int)} {f : List Int} {o : HO} (h : FreshF H H' D as fs) (S : Same H' H3) (S0 : Same H H') (eD : ∃ o, H' D = some o) (hl : H' l = none) (el : H3 l = some (.lst (f.map V.int))) : FreshF H (upd H3 D o) D (as ++ [l]) (fs ++ [f]) := by
  have nl : l ≠ D := fun z => by obtain ⟨o', e⟩ := eD; rw [z, e] at hl; cases hl
  refine ⟨?_, fun a ha => ?_, ?_⟩
  · refine Figs.but (D := D) (H := H3) (fun b o hb eo => by rw [upd_ne hb]; exact eo) ((h.figs.up S).append (.cons el .nil)) fun z => ?_
    rcases List.mem_append.mp z with z | z
    · exact (h.new D z).2 rfl
    · exact nl (List.mem_singleton.mp z).symm
  · rcases List.mem_append.mp ha with ha | ha
    · exact h.new a ha
    · rw [List.mem_singleton.mp ha]; exact ⟨S0.free hl, nl⟩
  · rw [List.nodup_append]
    refine ⟨h.nd, List.nodup_cons.mpr ⟨(fun z => nomatch z), List.nodup_nil⟩, fun x hx y hy z => ?_⟩
    have hy : y = l := by simpa using hy
    obtain ⟨i, hi⟩ := List.getElem?_of_mem hx
    obtain ⟨g, _, eg⟩ := h.figs.get hi
    rw [z, hy, hl] at eg; cases eg
noncomputable def Mod (ns : List Int) : Prop := ∀ x ∈ ns, -(2 ^ 250) < x ∧ x < 2 ^ 250
inductive isp_trow (cT : Addr) (a b c : V) (H : Hp) (Q : VK) (E : XK) : Prop
  | mk (kept spare : List Int) (lr lcs : Addr) (ns : List Int) (cs : List Addr) (cols : List (List Int)) (h0 : Bas H a kept spare) (h1 : b = .ref lr) (h2 : H lr = some (.lst (ns.map V.int))) (h3 : c = .ref lcs) (h4 : H lcs = some (.lst (cs.map V.ref))) (F : Figs H cs cols) (hn : ∀ c ∈ cols, c.length = ns.length) (h5 : ns.length ≤ 200) (m1 : Mod ns) (m2 : ∀ c ∈ cols, Mod c) (h6 : cols.length ≤ 100)
      (yes : (∀ c ∈ cols, Fits kept (dot ns c)) → ∀ lt fs H', Same H H' → H lt = none → H' lt = some (.lst (fs.map V.ref)) → FreshF H H' lt fs (prodR kept spare ns cols) → Q (.ref lt) H')
      (no : ¬ (∀ c ∈ cols, Fits kept (dot ns c)) → ∀ H', Same H H' → E (.ref cT) none H') : isp_trow cT a b c H Q E
noncomputable def sp_trow (cT : Addr) : Sp := Sp3 (isp_trow cT)
noncomputable abbrev s_told_row : Stmt := top 32
theorem sc_told_row : FnScope ["base", "row", "columns"] ["base", "row", "columns"] (defScope s_told_row) := ⟨rfl, rfl, rfl, by decide +kernel, rfl, by decide +kernel, by decide +kernel⟩
theorem b_told_row : BindsAll "told_row" s_told_row ["base", "row", "columns"] := binds3 fun _ _ _ _ _ _ _ _ _ => rfl
theorem ok_trow (D : Def K mg "told_row" s_told_row) (T : Txt K mg cR cT cB cW cD cP cA cU) (F_figure_of : FnS P w K mg base "figure_of" ["base", "number"] 5 (sp_figure cT)) (F_sum_of_products : FnS P w K mg base "sum_of_products" ["ones", "others"] 1 sp_dot) : FnS P w K mg base "told_row" ["base", "row", "columns"] 6 (sp_trow cT) := by
  refine D.ok sc_told_row b_told_row sp3_len fun f cdv A outer s H vs Q E hr h => ?_
  obtain ⟨_, _, _, rfl, kept, spare, lr, lcs, ns, cs, cols, B, rfl, er, rfl, ec, F, hn, h5, m1, m2, h6, yes, no⟩ := h
  obtain ⟨⟨tb, rfl, hb⟩, gb⟩ := id B
  refine ⟨_, (pss_one (ps_ret (pe_compE (lv := 1) (caps := [0, 1]) (N' := ["column", "base", "row"]) (xe := fun C s H fp => compXe _ E _ C _ s H fp) (fun _ _ _ _ _ _ _ _ _ _ I f hC z => comp_err I f hC z) rfl (CompOk.caps (sc := defScope s_told_row) rfl (by decide +kernel) (by decide +kernel) (by decide +kernel) rfl rfl (compcap2 rfl rfl rfl rfl rfl rfl)) (keep_name (by decide)) (pi_list (pv 2)) (fun _ _ _ _ => pg_name (i := 0) (show (["column", "base", "row"] : List Str).Nodup by decide +kernel) rfl (Or.inl rfl)) (fun _ _ _ _ => (cFn F_figure_of hr passE (ac (pv 1) (ac (cFn F_sum_of_products hr passes0 (ac (pv 2) (ac (pv 0) pa_nil))) pa_nil))))))), ?_⟩
  try (set_option simprocs false in dsimp only [cxOf])
  have s2000 : (2000 : Nat) ≤ sizeLine := by decide
  have cl := F.len
  refine ⟨_, rfl, lcs, rfl, ⟨_, SqL.of ec⟩, comp_LJ (K := K) (xs := cs.map V.ref) (SqL.of ec) (by rw [List.length_map]; omega) (fun D i ys H' => ∃ as, ys = as.map V.ref ∧ FreshF H H' D as (prodR kept spare ns (cols.take i)) ∧ ∀ c ∈ cols.take i, Fits kept (dot ns c)) (fun D hD => ⟨[], rfl, ⟨.nil, (fun _ z => nomatch z), List.nodup_nil⟩, fun _ z => nomatch z⟩) ?_ ?_⟩
  · rintro D i x ys H' hx hD S eD ⟨as, rfl, FF, fit⟩ Q' q
    obtain ⟨c, hc, rfl⟩ := refs_at hx
    obtain ⟨col, hcol, ecol⟩ := F.get hc
    have hm := List.mem_of_getElem? hcol
    have tk : cols.take (i + 1) = cols.take i ++ [col] := by rw [List.take_add_one, hcol]; rfl
    refine ⟨_, rfl, _, rfl, _, rfl, _, _, rfl, lr, c, ns, col, rfl, rfl, S _ _ er, S _ _ ecol, (hn col hm).symm, h5, m1, m2 col hm, fun H2 S2 => ?_⟩
    refine ⟨_, _, rfl, kept, spare, dot ns col, B.up (S.trans S2), rfl, fun hf l H3 S3 hl el => ?_, fun hf H3 S3 => no (fun z => hf (z col hm)) H3 (S.trans (S2.trans S3))⟩
    refine q (.ref l) H3 (S2.trans S3) ⟨as ++ [l], by rw [List.map_append]; rfl, ?_, fun c' hc' => ?_⟩
    · rw [tk]
      unfold prodR
      rw [List.map_append]
      exact FF.push (S2.trans S3) S ⟨_, eD⟩ (S2.free hl) el
    · rw [tk] at hc'
      rcases List.mem_append.mp hc' with hc' | hc'
      · exact fit c' hc'
      · rw [List.mem_singleton.mp hc']; exact hf
  · rintro D ys H' hD S eD ⟨as, rfl, FF, fit⟩
    rw [List.length_map, cl, List.take_length] at FF fit
    exact yes fit D as H' S hD eD FF
end
end K16
set_option Elab.async false
set_option linter.all false
set_option maxRecDepth 100000
set_option maxHeartbeats 4000000
namespace K16
open PySem L2 RF
seal L2.PE L2.PA L2.PS L2.PSs L2.PT L2.PG L2.PI L2.PK L2.PO L2.PEx L2.PSx L2.PSxs L2.PH L2.PW L2.PGs L2.PSet L2.OpR L2.CallR L2.SlR L2.IxR
section
variable {P : Program} {w : World} {K : PySem.W.Frag} {mg : Str → Option Value} {base : Heap} {cR cT cB cW cD cP cA cU : Addr}
noncomputable def RT (kept spare : List Int) (N : List (List Int)) (R : List (List (List Int))) : Prop := R = N.map (List.map (rests (kept ++ spare))) ∧ ∀ ns ∈ N, ∀ n ∈ ns, Fits kept n
noncomputable def colsOf (N : List (List Int)) : List (List Int) := (List.range (N.headD []).length).map (colOf N)
noncomputable def prodT (kept spare : List Int) (N1 N2 : List (List Int)) : List (List (List Int)) := N1.map fun ns => prodR kept spare ns (colsOf N2)
noncomputable def FitsT (kept : List Int) (N1 N2 : List (List Int)) : Prop := ∀ ns ∈ N1, ∀ c ∈ colsOf N2, Fits kept (dot ns c)
structure FreshT (H H' : Hp) (D : Addr) (rs : List Addr) (ass : List (List Addr)) (fss : List (List (List Int))) : Prop where
  tab : Tab H' rs ass fss
  newR : ∀ a ∈ rs, H a = none ∧ a ≠ D
  newF : ∀ a ∈ ass.flatten, H a = none ∧ a ≠ D
  ndR : rs.Nodup
  ndF : ass.flatten.Nodup
theorem Tab.but {H H' : Hp} {D : Addr} (S : ∀ b o, b ≠ D → H b = some o → H' b = some o) {rs : List Addr} {ass : List (List Addr)} {fss : List (List (List Int))} (h : Tab H rs ass fss) (n1 : D ∉ rs) (n2 : D ∉ ass.flatten) : Tab H' rs ass fss := by
  induction h with
  | nil => exact .nil
  | cons h h' _ ih =>
    rw [List.flatten_cons] at n2
    exact .cons (S _ _ (fun z => n1 (z ▸ List.mem_cons_self)) h) (h'.but S fun z => n2 (List.mem_append_left _ z)) (ih (fun z => n1 (List.mem_cons_of_mem _ z)) fun z => n2 (List.mem_append_right _ z))
theorem FreshT.push {H H' H3 : Hp} {D l : Addr} {rs : List Addr} {ass : List (List Addr)} {fss : List (List (List Int))} {as : List Addr} {fs : List (List Int)} {o : HO} (h : FreshT H H' D rs ass fss) (S : Same H' H3) (S0 : Same H H') (eD : ∃ o, H' D = some o) (hl : H' l = none) (el : H3 l = some (.lst (as.map V.ref))) (FF : FreshF H' H3 l as fs) : FreshT H (upd H3 D o) D (rs ++ [l]) (ass ++ [as]) (fss ++ [fs]) := by
  obtain ⟨o', eD⟩ := eD
  have nl : l ≠ D := fun z => by rw [z, eD] at hl; cases hl
  have fl : (ass ++ [as]).flatten = ass.flatten ++ as := by simp
  have nR : ∀ a ∈ rs ++ [l], H a = none ∧ a ≠ D := fun a ha => by
    rcases List.mem_append.mp ha with ha | ha
    · exact h.newR a ha
    · rw [List.mem_singleton.mp ha]; exact ⟨S0.free hl, nl⟩
  have nF : ∀ a ∈ (ass ++ [as]).flatten, H a = none ∧ a ≠ D := fun a ha => by
    rw [fl] at ha
    rcases List.mem_append.mp ha with ha | ha
    · exact h.newF a ha
    · have := (FF.new a ha).1
      exact ⟨S0.free this, fun z => by rw [z, eD] at this; cases this⟩
  refine ⟨?_, nR, nF, ?_, ?_⟩
  · exact Tab.but (D := D) (H := H3) (fun b o hb eo => by rw [upd_ne hb]; exact eo) ((h.tab.up S).append (.cons el FF.figs .nil)) (fun z => (nR D z).2 rfl) (fun z => (nF D z).2 rfl)
  · rw [List.nodup_append]
    refine ⟨h.ndR, List.nodup_cons.mpr ⟨(fun z => nomatch z), List.nodup_nil⟩, fun x hx y hy z => ?_⟩
    have hy : y = l := by simpa using hy
    obtain ⟨i, hi⟩ := List.getElem?_of_mem hx
    obtain ⟨_, _, _, _, eg, _⟩ := h.tab.get hi
    rw [z, hy, hl] at eg; cases eg
  · rw [fl, List.nodup_append]
    refine ⟨h.ndF, FF.nd, fun x hx y hy z => ?_⟩
    obtain ⟨i, hi⟩ := List.getElem?_of_mem hx
    obtain ⟨g, _, eg⟩ := h.tab.flat.get hi
    rw [z, (FF.new y hy).1] at eg; cases eg
theorem row_cases {kept spare : List Int} : ∀ {fs : List (List Int)}, (∀ f ∈ fs, Valid (kept ++ spare) f) → (∃ ns : List Int, fs = ns.map (rests (kept ++ spare)) ∧ ∀ n ∈ ns, Fits kept n) ∨ ∃ f ∈ fs, WrongF kept spare f
  | [], _ => .inl ⟨[], rfl, fun _ z => nomatch z⟩
  | f :: fs, h => by
    rcases fig_cases (kept := kept) (spare := spare) f with ⟨n, hn⟩ | hw | hn
    · rcases row_cases (fs := fs) fun g hg => h g (List.mem_cons_of_mem _ hg) with ⟨ns, e, hf⟩ | ⟨g, hg, hw⟩
      · refine .inl ⟨n :: ns, by rw [List.map_cons, ← e, ← hn.1], fun m hm => ?_⟩
        rcases List.mem_cons.mp hm with rfl | hm
        · exact hn.2
        · exact hf m hm
      · exact .inr ⟨g, List.mem_cons_of_mem _ hg, hw⟩
    · exact .inr ⟨f, List.mem_cons_self, hw⟩
    · exact absurd (h f List.mem_cons_self) hn
inductive isp_tprod (cU cB cW cT : Addr) (a b c : V) (H : Hp) (Q : VK) (E : XK) : Prop
  | mk (kept spare : List Int) (l1 l2 : Addr) (rs rs' : List Addr) (ass ass' : List (List Addr)) (R1 R2 : List (List (List Int))) (h0 : Bas H a kept spare) (h1 : b = .ref l1) (h2 : c = .ref l2) (e1 : H l1 = some (.lst (rs.map V.ref))) (e2 : H l2 = some (.lst (rs'.map V.ref))) (t1 : Tab H rs ass R1) (t2 : Tab H rs' ass' R2) (s1 : R1.length ≤ 20) (s2 : 1 ≤ R2.length) (s3 : R2.length ≤ 20) (s4 : ∀ r ∈ R1, r.length ≤ 20) (s5 : ∀ r ∈ R2, r.length ≤ 20)
      (unl : ¬ Like R1 R2 → ∀ H', Same H H' → E (.ref cU) none H')
      (bad : Like R1 R2 → (∃ f ∈ (R1 ++ R2).flatten, ¬ Valid (kept ++ spare) f) → ∀ H', Same H H' → E (.ref cB) none H')
      (wrong : Like R1 R2 → (∀ f ∈ (R1 ++ R2).flatten, Valid (kept ++ spare) f) → (∃ f ∈ (R1 ++ R2).flatten, WrongF kept spare f) → ∀ H', Same H H' → E (.ref cW) none H')
      (great : Like R1 R2 → ∀ N1 N2, RT kept spare N1 R1 → RT kept spare N2 R2 → ¬ FitsT kept N1 N2 → ∀ H', Same H H' → E (.ref cT) none H')
      (yes : Like R1 R2 → ∀ N1 N2, RT kept spare N1 R1 → RT kept spare N2 R2 → FitsT kept N1 N2 → ∀ lt rws bss H', Same H H' → H lt = none → H' lt = some (.lst (rws.map V.ref)) → FreshT H H' lt rws bss (prodT kept spare N1 N2) → Q (.ref lt) H') : isp_tprod cU cB cW cT a b c H Q E
noncomputable def sp_tprod (cU cB cW cT : Addr) : Sp := Sp3 (isp_tprod cU cB cW cT)
theorem flat_le {α : Type} {m : Nat} : ∀ {xss : List (List α)}, (∀ xs ∈ xss, xs.length ≤ m) → xss.flatten.length ≤ xss.length * m
  | [], _ => by simp
  | xs :: xss, h => by
    have h1 := h xs List.mem_cons_self
    have h2 := flat_le (xss := xss) fun y hy => h y (List.mem_cons_of_mem _ hy)
    rw [List.flatten_cons, List.length_append, List.length_cons, Nat.succ_mul]
    omega
theorem Tab.alens {H : Hp} {rs : List Addr} {ass : List (List Addr)} {fss : List (List (List Int))} (h : Tab H rs ass fss) {m : Nat} (hm : ∀ r ∈ fss, r.length ≤ m) : ∀ as ∈ ass, as.length ≤ m := by
  induction h with
  | nil => exact fun _ z => nomatch z
  | cons h h' _ ih =>
    intro as ha
    rcases List.mem_cons.mp ha with rfl | ha
    · rw [h'.len]; exact hm _ List.mem_cons_self
    · exact ih (fun r hr => hm r (List.mem_cons_of_mem _ hr)) as ha
theorem col_len (N : List (List Int)) (j : Nat) : (colOf N j).length = N.length := List.length_map _
theorem RT.snoc {kept spare : List Int} {N : List (List Int)} {R : List (List (List Int))} {ns : List Int} {fs : List (List Int)} (h : RT kept spare N R) (e : fs = ns.map (rests (kept ++ spare))) (hf : ∀ n ∈ ns, Fits kept n) : RT kept spare (N ++ [ns]) (R ++ [fs]) := by
  refine ⟨by rw [List.map_append, ← h.1, e]; rfl, fun ms hm => ?_⟩
  rcases List.mem_append.mp hm with hm | hm
  · exact h.2 ms hm
  · rw [List.mem_singleton.mp hm]; exact hf
theorem Mod.fits {kept spare : List Int} (gb : GoodBase kept spare) {ns : List Int} (h : ∀ n ∈ ns, Fits kept n) : Mod ns := fun n hn => by
  have := Fits.small gb (h n hn)
  have c250 : (2 : Int) ^ 120 < 2 ^ 250 := by decide
  omega
theorem fits_zero {kept spare : List Int} (gb : GoodBase kept spare) : Fits kept 0 := by
  have := gb.span
  constructor
  · unfold RF.lowest; omega
  · unfold RF.highest; omega
theorem Mod.col {kept spare : List Int} (gb : GoodBase kept spare) {N : List (List Int)} (h : ∀ ns ∈ N, ∀ n ∈ ns, Fits kept n) (j : Nat) : Mod (colOf N j) := by
  refine Mod.fits gb fun n hn => ?_
  obtain ⟨ns, hns, rfl⟩ := List.mem_map.mp hn
  rw [List.getD_eq_getElem?_getD]
  cases e : ns[j]? with
  | none => exact fits_zero gb
  | some m => exact h ns hns m (List.mem_of_getElem? e)
noncomputable abbrev s_table_product : Stmt := top 28
theorem sc_table_product : FnScope ["base", "one", "other", "rows", "columns"] ["base", "one", "other"] (defScope s_table_product) := ⟨rfl, rfl, rfl, by decide +kernel, rfl, by decide +kernel, by decide +kernel⟩
theorem b_table_product : BindsAll "table_product" s_table_product ["base", "one", "other"] := binds3 fun _ _ _ _ _ _ _ _ _ => rfl
theorem ok_tprod (D : Def K mg "table_product" s_table_product) (T : Txt K mg cR cT cB cW cD cP cA cU) (F_refuse_unlike_tables : FnS P w K mg base "refuse_unlike_tables" ["one", "other"] 1 (sp_runl cU)) (F_refuse_no_figures : FnS P w K mg base "refuse_no_figures" ["base", "figures"] 3 (sp_refsL cB)) (F_figures_in : FnS P w K mg base "figures_in" ["rows"] 1 sp_figsin) (F_numbers_of : FnS P w K mg base "numbers_of" ["base", "figures"] 46 (sp_numsL cB cW)) (F_columns_of : FnS P w K mg base "columns_of" ["rows"] 1 sp_cols) (F_told_row : FnS P w K mg base "told_row" ["base", "row", "columns"] 6 (sp_trow cT)) : FnS P w K mg base "table_product" ["base", "one", "other"] 47 (sp_tprod cU cB cW cT) := by
  refine D.ok sc_table_product b_table_product sp3_len fun f cdv A outer s H vs Q E hr h => ?_
  obtain ⟨_, _, _, rfl, kept, spare, l1, l2, rs, rs', ass, ass', R1, R2, B, rfl, rfl, e1, e2, t1, t2, s1, s2, s3, s4, s5, unl, bad, wrong, great, yes⟩ := h
  obtain ⟨⟨tb, rfl, hb⟩, gb⟩ := id B
  refine ⟨_, (pss_cons (ps_expr (cFn F_refuse_unlike_tables hr passes1 (ac (pv 1) (ac (pv 2) pa_nil))))
      (pss_cons (ps_expr (cFn F_refuse_no_figures hr passes1 (ac (pv 0) (ac (cFn F_figures_in hr passes0 (ac (pe_op op0catS (pv 1) (pv 2)) pa_nil)) pa_nil))))
      (pss_cons (ps_setC (i := 3) (lv := 1) (caps := [0]) (N' := ["row", "base"]) (xe := fun C s H fp => compXe _ E _ C _ s H fp) (fun _ _ _ _ _ _ Q acc _ _ I f hC z => comp_err (Q := Q) (acc := acc) I f hC z) sc_table_product.nd rfl (Or.inl rfl) rfl (CompOk.caps (sc := defScope s_table_product) rfl (by decide +kernel) (by decide +kernel) (by decide +kernel) rfl rfl (compcap1 rfl rfl rfl)) (keep_name (by decide)) (pi_list (pv 1)) (fun _ _ _ _ => pg_name (i := 0) (show (["row", "base"] : List Str).Nodup by decide +kernel) rfl (Or.inl rfl)) (fun _ _ _ _ => (cFn F_numbers_of hr passE (ac (pv 1) (ac (pv 0) pa_nil)))))
      (pss_cons (ps_set (i := 4) sc_table_product.nd rfl (Or.inr rfl) (cFn F_columns_of hr passes0 (ac (pe_compE (lv := 1) (caps := [0]) (N' := ["row", "base"]) (xe := fun C s H fp => compXe _ E _ C _ s H fp) (fun _ _ _ _ _ _ Q acc _ _ I f hC z => comp_err (Q := Q) (acc := acc) I f hC z) rfl (CompOk.caps (sc := defScope s_table_product) rfl (by decide +kernel) (by decide +kernel) (by decide +kernel) rfl rfl (compcap1 rfl rfl rfl)) (keep_name (by decide)) (pi_list (pv 2)) (fun _ _ _ _ => pg_name (i := 0) (show (["row", "base"] : List Str).Nodup by decide +kernel) rfl (Or.inl rfl)) (fun _ _ _ _ => (cFn F_numbers_of hr passE (ac (pv 1) (ac (pv 0) pa_nil))))) pa_nil)))
      (pss_one (ps_ret (pe_compE (lv := 1) (caps := [0, 4]) (N' := ["row", "base", "columns"]) (xe := fun C s H fp => compXe _ E _ C _ s H fp) (fun _ _ _ _ _ _ Q acc _ _ I f hC z => comp_err (Q := Q) (acc := acc) I f hC z) rfl (CompOk.caps (sc := defScope s_table_product) rfl (by decide +kernel) (by decide +kernel) (by decide +kernel) rfl rfl (compcap2 rfl rfl rfl rfl rfl rfl)) (keep_name (by decide)) (pi_list (pv 3)) (fun _ _ _ _ => pg_name (i := 0) (show (["row", "base", "columns"] : List Str).Nodup by decide +kernel) rfl (Or.inl rfl)) (fun _ _ _ _ => (cFn F_told_row hr passE (ac (pv 1) (ac (pv 0) (ac (pv 2) pa_nil)))))))))))), ?_⟩
  try (set_option simprocs false in dsimp only [cxOf])
  have s2000 : (2000 : Nat) ≤ sizeLine := by decide
  have L1 := t1.len
  have L2 := t2.len
  refine ⟨_, rfl, _, rfl, _, _, rfl, l1, l2, rs, rs', ass, ass', R1, R2, rfl, rfl, e1, e2, t1, t2, fun hL => ?_, fun hL => unl hL H (Same.refl H)⟩
  have wrong := wrong hL
  have bad := bad hL
  have great := great hL
  have yes := yes hL
  refine ⟨_, rfl, _, rfl, _, rfl, l1, l2, _, _, rfl, rfl, SqL.of e1, SqL.of e2, (by rw [List.length_map, List.length_map]; omega), fun p fp => ?_⟩
  have N0 := Same.new (o := .lst (rs.map V.ref ++ rs'.map V.ref)) fp
  have T12 := (t1.append t2).up N0
  have al : ∀ as ∈ ass ++ ass', as.length ≤ 20 := T12.alens (m := 20) fun r hr' => (List.mem_append.mp hr').elim (s4 r) (s5 r)
  have a1 : (ass ++ ass').length ≤ 40 := by rw [← T12.len2, List.length_append]; omega
  have sz : ∀ i, ((ass ++ ass').take i).flatten.length ≤ 1000 := fun i => by
    have := flat_le (m := 20) (xss := (ass ++ ass').take i) fun as ha => al as (List.mem_of_mem_take ha)
    have h2 := List.length_take_le' i (ass ++ ass')
    have h3 : ((ass ++ ass').take i).length * 20 ≤ 40 * 20 := Nat.mul_le_mul_right 20 (by omega)
    omega
  refine ⟨_, rfl, p, rs ++ rs', ass ++ ass', R1 ++ R2, rfl, by rw [List.map_append]; exact upd_same, T12, sz, fun lf H1 S1 ef FA => ?_⟩
  have S01 := N0.trans S1
  refine ⟨_, _, rfl, kept, spare, _, _, B.up S01, ⟨lf, rfl, ef, FA⟩, fun val H2 S2 => ?_, fun hx H2 S2 => bad hx H2 (S01.trans S2)⟩
  have wrong := wrong val
  have S02 := S01.trans S2
  have v1 : ∀ fs ∈ R1, ∀ f ∈ fs, Valid (kept ++ spare) f := fun fs hfs f hf => val f (List.mem_flatten.mpr ⟨fs, List.mem_append_left _ hfs, hf⟩)
  have v2 : ∀ fs ∈ R2, ∀ f ∈ fs, Valid (kept ++ spare) f := fun fs hfs f hf => val f (List.mem_flatten.mpr ⟨fs, List.mem_append_right _ hfs, hf⟩)
  have w1 : ∀ fs ∈ R1, (∃ f ∈ fs, WrongF kept spare f) → ∀ H', Same H H' → E (.ref cW) none H' := fun fs hfs ⟨f, hf, hw⟩ => wrong ⟨f, List.mem_flatten.mpr ⟨fs, List.mem_append_left _ hfs, hf⟩, hw⟩
  have w2 : ∀ fs ∈ R2, (∃ f ∈ fs, WrongF kept spare f) → ∀ H', Same H H' → E (.ref cW) none H' := fun fs hfs ⟨f, hf, hw⟩ => wrong ⟨f, List.mem_flatten.mpr ⟨fs, List.mem_append_right _ hfs, hf⟩, hw⟩
  have e12 := S02 _ _ e1
  have T1 := t1.up S02
  refine ⟨_, rfl, l1, rfl, ⟨_, SqL.of e12⟩, comp_LJ (K := K) (xs := rs.map V.ref) (SqL.of e12) (by rw [List.length_map]; omega) (fun D i ys H' => ∃ as N, ys = as.map V.ref ∧ Figs H' as N ∧ RT kept spare N (R1.take i) ∧ D ∉ as) (fun D hD => ⟨[], [], rfl, .nil, ⟨rfl, fun _ z => nomatch z⟩, fun z => nomatch z⟩) ?_ ?_⟩
  · rintro D i x ys H' hx hD S eD ⟨as, N, rfl, FN, rt, nD⟩ Q' q
    obtain ⟨r, hr', rfl⟩ := refs_at hx
    obtain ⟨bs, fs, _, hfs, er, F⟩ := T1.get hr'
    have hm := List.mem_of_getElem? hfs
    have tk : R1.take (i + 1) = R1.take i ++ [fs] := by rw [List.take_add_one, hfs]; rfl
    refine ⟨_, rfl, _, rfl, _, _, rfl, kept, spare, bs, fs, B.up (S02.trans S), ⟨r, rfl, S _ _ er, F.up S⟩, (by rw [F.len]; have := s4 fs hm; omega), ?_⟩
    rcases row_cases (v1 fs hm) with ⟨ns, e, hf⟩ | hw
    · refine .inl ⟨ns, e, hf, fun q2 H3 S3 hq2 eq2 => q (.ref q2) H3 S3 ⟨as ++ [q2], N ++ [ns], by rw [List.map_append]; rfl, ?_, by rw [tk]; exact rt.snoc e hf, fun z => ?_⟩⟩
      · refine Figs.but (D := D) (H := H3) (fun b o hb eo => by rw [upd_ne hb]; exact eo) ((FN.up S3).append (.cons eq2 .nil)) fun z => ?_
        rcases List.mem_append.mp z with z | z
        · exact nD z
        · rw [← List.mem_singleton.mp z, eD] at hq2; cases hq2
      · rcases List.mem_append.mp z with z | z
        · exact nD z
        · rw [← List.mem_singleton.mp z, eD] at hq2; cases hq2
    · exact .inr (.inr ⟨v1 fs hm, hw, fun H3 S3 => w1 fs hm hw H3 (S02.trans (S.trans S3))⟩)
  rintro lr ys H3 hlr S3 elr ⟨as1, N1, rfl, FN1, rt1, _⟩
  rw [List.length_map, L1, List.take_length] at rt1
  have S03 := S02.trans S3
  have e23 := S03 _ _ e2
  have T2 := t2.up S03
  refine ⟨_, rfl, l2, rfl, ⟨_, SqL.of e23⟩, comp_LJ (K := K) (xs := rs'.map V.ref) (SqL.of e23) (by rw [List.length_map]; omega) (fun D i ys H' => ∃ as N, ys = as.map V.ref ∧ Figs H' as N ∧ RT kept spare N (R2.take i) ∧ D ∉ as) (fun D hD => ⟨[], [], rfl, .nil, ⟨rfl, fun _ z => nomatch z⟩, fun z => nomatch z⟩) ?_ ?_⟩
  · rintro D i x ys H' hx hD S eD ⟨as, N, rfl, FN, rt, nD⟩ Q' q
    obtain ⟨r, hr', rfl⟩ := refs_at hx
    obtain ⟨bs, fs, _, hfs, er, F⟩ := T2.get hr'
    have hm := List.mem_of_getElem? hfs
    have tk : R2.take (i + 1) = R2.take i ++ [fs] := by rw [List.take_add_one, hfs]; rfl
    refine ⟨_, rfl, _, rfl, _, _, rfl, kept, spare, bs, fs, B.up (S03.trans S), ⟨r, rfl, S _ _ er, F.up S⟩, (by rw [F.len]; have := s5 fs hm; omega), ?_⟩
    rcases row_cases (v2 fs hm) with ⟨ns, e, hf⟩ | hw
    · refine .inl ⟨ns, e, hf, fun q2 H3 S3 hq2 eq2 => q (.ref q2) H3 S3 ⟨as ++ [q2], N ++ [ns], by rw [List.map_append]; rfl, ?_, by rw [tk]; exact rt.snoc e hf, fun z => ?_⟩⟩
      · refine Figs.but (D := D) (H := H3) (fun b o hb eo => by rw [upd_ne hb]; exact eo) ((FN.up S3).append (.cons eq2 .nil)) fun z => ?_
        rcases List.mem_append.mp z with z | z
        · exact nD z
        · rw [← List.mem_singleton.mp z, eD] at hq2; cases hq2
      · rcases List.mem_append.mp z with z | z
        · exact nD z
        · rw [← List.mem_singleton.mp z, eD] at hq2; cases hq2
    · exact .inr (.inr ⟨v2 fs hm, hw, fun H3 S3 => w2 fs hm hw H3 (S03.trans (S.trans S3))⟩)
  rintro lo ys H4 hlo S4 elo ⟨as2, N2, rfl, FN2, rt2, _⟩
  rw [List.length_map, L2, List.take_length] at rt2
  have S04 := S03.trans S4
  have n2 : N2.length = R2.length := by rw [rt2.1, List.length_map]
  have n1 : N1.length = R1.length := by rw [rt1.1, List.length_map]
  have hd2 : (R2.headD []).length = (N2.headD []).length := by
    rw [rt2.1]
    cases N2 with
    | nil => rfl
    | cons a b => exact List.length_map _
  have w20 : ∀ r ∈ N2, r.length = (N2.headD []).length := fun r hr' => by
    rw [← hd2, ← hL.2 (r.map (rests (kept ++ spare))) (by rw [rt2.1]; exact List.mem_map_of_mem hr'), List.length_map]
  have h20 : (N2.headD []).length ≤ 20 := by
    cases N2 with
    | nil => exact Nat.zero_le _
    | cons a b =>
      have := s5 (a.map (rests (kept ++ spare))) (by rw [rt2.1]; exact List.mem_cons_self)
      rw [List.length_map] at this
      exact this
  refine ⟨_, rfl, lo, as2, N2, _, rfl, elo, FN2, w20, by omega, by omega, by omega, fun lc cs H5 S5 elc FC => ?_⟩
  have S05 := S04.trans S5
  have S35 := S4.trans S5
  have elr5 := S35 _ _ elr
  have FN15 := FN1.up S35
  have FN1l := FN1.len
  refine ⟨_, rfl, lr, rfl, ⟨_, SqL.of elr5⟩, comp_LJ (K := K) (xs := as1.map V.ref) (SqL.of elr5) (by rw [List.length_map]; omega) (fun D i ys H' => ∃ rws bss, ys = rws.map V.ref ∧ FreshT H5 H' D rws bss (prodT kept spare (N1.take i) N2) ∧ FitsT kept (N1.take i) N2) (fun D hD => ⟨[], [], rfl, ⟨.nil, (fun _ z => nomatch z), (fun _ z => nomatch z), List.nodup_nil, List.nodup_nil⟩, fun _ z => nomatch z⟩) ?_ ?_⟩
  · rintro D i x ys H' hx hD S eD ⟨rws, bss, rfl, FT, fit⟩ Q' q
    obtain ⟨r, hr', rfl⟩ := refs_at hx
    obtain ⟨ns, hns, er⟩ := FN15.get hr'
    have hm := List.mem_of_getElem? hns
    have tk : N1.take (i + 1) = N1.take i ++ [ns] := by rw [List.take_add_one, hns]; rfl
    have nl : ns.length = R2.length := by
      rw [← hL.1 (ns.map (rests (kept ++ spare))) (by rw [rt1.1]; exact List.mem_map_of_mem hm), List.length_map]
    refine ⟨_, rfl, _, rfl, _, rfl, _, _, _, rfl, kept, spare, r, lc, ns, cs, colsOf N2, B.up (S05.trans S), rfl, S _ _ er, rfl, S _ _ elc, FC.up S, fun c hc => ?_, by omega, Mod.fits gb (rt1.2 ns hm), fun c hc => ?_, by unfold colsOf; rw [List.length_map, List.length_range]; omega, fun hf lt fs H6 S6 hlt elt FF => ?_, fun hf H6 S6 => ?_⟩
    · obtain ⟨j, _, rfl⟩ := List.mem_map.mp hc
      rw [col_len, nl, n2]
    · obtain ⟨j, _, rfl⟩ := List.mem_map.mp hc
      exact Mod.col gb rt2.2 j
    · refine q (.ref lt) H6 S6 ⟨rws ++ [lt], bss ++ [fs], by rw [List.map_append]; rfl, ?_, fun ms hms => ?_⟩
      · rw [tk]
        unfold prodT
        rw [List.map_append]
        exact FT.push S6 S ⟨_, eD⟩ hlt elt FF
      · rw [tk] at hms
        rcases List.mem_append.mp hms with hms | hms
        · exact fit ms hms
        · rw [List.mem_singleton.mp hms]; exact hf
    · exact great N1 N2 rt1 rt2 (fun z => hf (z ns hm)) H6 (S05.trans (S.trans S6))
  rintro lt ys H6 hlt S6 elt ⟨rws, bss, rfl, FT, fit⟩
  rw [List.length_map, FN1l, List.take_length] at FT fit
  exact yes N1 N2 rt1 rt2 fit lt rws bss H6 (S05.trans S6) (S05.free hlt) elt ⟨FT.tab, fun a ha => ⟨S05.free (FT.newR a ha).1, (FT.newR a ha).2⟩, fun a ha => ⟨S05.free (FT.newF a ha).1, (FT.newF a ha).2⟩, FT.ndR, FT.ndF⟩
end
end K16
set_option Elab.async false
set_option linter.all false
set_option maxRecDepth 100000
set_option maxHeartbeats 4000000
namespace K16
open PySem L2 RF
seal L2.PE L2.PA L2.PS L2.PSs L2.PT L2.PG L2.PI L2.PK L2.PO L2.PEx L2.PSx L2.PSxs L2.PH L2.PW L2.PGs L2.PSet L2.OpR L2.CallR L2.SlR L2.IxR
section
variable {P : Program} {w : World} {K : PySem.W.Frag} {mg : Str → Option Value} {base : Heap} {cR cT cB cW cD cP cA cU : Addr}
theorem atI_get {xs : List V} {i : Nat} {x : V} (h : xs[i]? = some x) : atI xs (0 + (i : Int)) = some x := by
  have hi := (List.getElem?_eq_some_iff.mp h).1
  unfold atI ixN
  rw [Int.zero_add, if_pos (Int.natCast_nonneg i), if_pos (by omega), Int.toNat_natCast]
  exact h
theorem kit_tl (K : PySem.W.Frag) : PySem.W.kitOne K (.type "tuple") (.type "list") = some false := by kernel_rfl
theorem kit_tlt (K : PySem.W.Frag) : PySem.W.kitAny K (.type "tuple") (["list", "tuple"].map Value.type) = some true := by kernel_rfl
theorem ok_same0 (D : Def K mg "_law_same" s__law_same) : FnS P w K mg base "_law_same" ["_law_found", "_law_due_here"] 1 (sp_sameN 0) :=
  D.ok sc__law_same b__law_same sp2_len fun f cdv A outer s H vs Q E hr h => by obtain ⟨_, _, _, h, _⟩ := h; cases h
theorem ok_sameS {n m : Nat} (D : Def K mg "_law_same" s__law_same) (T : Txt K mg cR cT cB cW cD cP cA cU) (F__law_same : FnS P w K mg base "_law_same" ["_law_found", "_law_due_here"] (m + 1) (sp_sameN n)) : FnS P w K mg base "_law_same" ["_law_found", "_law_due_here"] (m + 2) (sp_sameN (n + 1)) := by
  refine D.ok sc__law_same b__law_same sp2_len fun f cdv A outer s H vs Q E hr h => ?_
  obtain ⟨_, _, rfl, hsd, k⟩ := h
  have mapT : ∀ n : Nat, (List.range n).map (fun _ => V.bl true) = ((List.range n).map fun _ => true).map V.bl := fun n => by simp
  cases hsd with
  | int _ x =>
    refine ⟨_, (pss_cons (ps_if (pt_val (cBi call_isiT (by rfl) T.isinstance PyProof.Rows.Boot.«isinstance» (ac (pv 1) (ac (pe_tup (ac (pe_ty rfl T.list PyProof.Rows.Boot.«list») (ac (pe_ty rfl T.tuple PyProof.Rows.Boot.«tuple») pa_nil))) pa_nil))))
        (pss_cons (ps_if (PW.pt (pw_or (pt_cmpR op_ne (cBi call_isi (by rfl) T.isinstance PyProof.Rows.Boot.«isinstance» (ac (pv 1) (ac (pe_ty rfl T.list PyProof.Rows.Boot.«list») pa_nil))) (cBi call_isi (by rfl) T.isinstance PyProof.Rows.Boot.«isinstance» (ac (pv 0) (ac (pe_ty rfl T.list PyProof.Rows.Boot.«list») pa_nil))) (nomark _)) (pw_or1 (pt_cmpR op_ne (cBi call_isi (by rfl) T.isinstance PyProof.Rows.Boot.«isinstance» (ac (pv 1) (ac (pe_ty rfl T.tuple PyProof.Rows.Boot.«tuple») pa_nil))) (cBi call_isi (by rfl) T.isinstance PyProof.Rows.Boot.«isinstance» (ac (pv 0) (ac (pe_ty rfl T.tuple PyProof.Rows.Boot.«tuple») pa_nil))) (nomark _)))))
          (pss_one (ps_ret pe_bl))
          pss_nil)
        (pss_one (ps_ret (pe_and (pe_cmpR op_eq (cBi call0len (by rfl) T.len PyProof.Rows.Boot.«len» (ac (pv 0) pa_nil)) (cBi call0len (by rfl) T.len PyProof.Rows.Boot.«len» (ac (pv 1) pa_nil)) (nomark _)) (pe_one (cBi (call_all rfl) (by rfl) T.all PyProof.Rows.Boot.«all» (ac (pe_comp (lv := 1) (caps := [0, 1]) (N' := ["_law_k", "_law_found", "_law_due_here"]) rfl (CompOk.caps (sc := defScope s__law_same) rfl (by decide +kernel) (by decide +kernel) (by decide +kernel) rfl rfl (compcap2 rfl rfl rfl rfl rfl rfl)) (keep_name (by decide)) (pi_range1 rfl T.range (ac (cBi call0len (by rfl) T.len PyProof.Rows.Boot.«len» (ac (pv 1) pa_nil)) pa_nil)) (fun _ _ _ _ => pg_name (i := 0) (show (["_law_k", "_law_found", "_law_due_here"] : List Str).Nodup by decide +kernel) rfl (Or.inl rfl)) (fun _ _ _ _ => (cFn (hkk := Nat.le_refl _) F__law_same hr passes0 (ac (pe_ix ix0L (pv 1) (pv 0) (fun _ _ => rfl)) (ac (pe_ix ix0L (pv 2) (pv 0) (fun _ _ => rfl)) pa_nil))))) pa_nil)))))))
        pss_nil)
      (pss_one (ps_ret (pe_and (cBi call_isi (by rfl) T.isinstance PyProof.Rows.Boot.«isinstance» (ac (pv 0) (ac (pe_ty rfl T.int PyProof.Rows.Boot.«int») pa_nil))) (pe_and (pe_not (cBi call_isi (by rfl) T.isinstance PyProof.Rows.Boot.«isinstance» (ac (pv 0) (ac (pe_ty rfl T.bool PyProof.Rows.Boot.«bool») pa_nil)))) (pe_one (pe_cmpR op_eq (pv 0) (pv 1) (nomark _)))))))), ?_⟩
    try (set_option simprocs false in dsimp only [cxOf])
    refine ⟨_, rfl, (by show 2 ≤ sizeLine; decide), fun p hp => ?_⟩
    refine ⟨_, _, p, ["list", "tuple"], _, rfl, TyOf.int x, upd_same, kit_ilt K, _, rfl, iteF ?_⟩
    refine ⟨_, rfl, _, _, _, _, rfl, TyOf.int x, kit_ii K, _, rfl, iteT ⟨_, rfl, _, _, _, _, rfl, TyOf.int x, kit_ib K, _, rfl, _, rfl, iteT ⟨_, rfl, _, rfl, rfl, ?_⟩⟩⟩
    show Q (.bl (decide (V.int x = V.int x))) _
    rw [decide_eq_true rfl]
    exact k _ (Same.new hp)
  | @lst _ l1 l2 xs ys e1 e2 hl h100 hs =>
    refine ⟨_, (pss_cons (ps_if (pt_val (cBi call_isiT (by rfl) T.isinstance PyProof.Rows.Boot.«isinstance» (ac (pv 1) (ac (pe_tup (ac (pe_ty rfl T.list PyProof.Rows.Boot.«list») (ac (pe_ty rfl T.tuple PyProof.Rows.Boot.«tuple») pa_nil))) pa_nil))))
        (pss_cons (ps_if (PW.pt (pw_or (pt_cmpR op_ne (cBi call_isi (by rfl) T.isinstance PyProof.Rows.Boot.«isinstance» (ac (pv 1) (ac (pe_ty rfl T.list PyProof.Rows.Boot.«list») pa_nil))) (cBi call_isi (by rfl) T.isinstance PyProof.Rows.Boot.«isinstance» (ac (pv 0) (ac (pe_ty rfl T.list PyProof.Rows.Boot.«list») pa_nil))) (nomark _)) (pw_or1 (pt_cmpR op_ne (cBi call_isi (by rfl) T.isinstance PyProof.Rows.Boot.«isinstance» (ac (pv 1) (ac (pe_ty rfl T.tuple PyProof.Rows.Boot.«tuple») pa_nil))) (cBi call_isi (by rfl) T.isinstance PyProof.Rows.Boot.«isinstance» (ac (pv 0) (ac (pe_ty rfl T.tuple PyProof.Rows.Boot.«tuple») pa_nil))) (nomark _)))))
          (pss_one (ps_ret pe_bl))
          pss_nil)
        (pss_one (ps_ret (pe_and (pe_cmpR op_eq (cBi call0len (by rfl) T.len PyProof.Rows.Boot.«len» (ac (pv 0) pa_nil)) (cBi call0len (by rfl) T.len PyProof.Rows.Boot.«len» (ac (pv 1) pa_nil)) (nomark _)) (pe_one (cBi (call_all rfl) (by rfl) T.all PyProof.Rows.Boot.«all» (ac (pe_comp (lv := 1) (caps := [0, 1]) (N' := ["_law_k", "_law_found", "_law_due_here"]) rfl (CompOk.caps (sc := defScope s__law_same) rfl (by decide +kernel) (by decide +kernel) (by decide +kernel) rfl rfl (compcap2 rfl rfl rfl rfl rfl rfl)) (keep_name (by decide)) (pi_range1 rfl T.range (ac (cBi call0len (by rfl) T.len PyProof.Rows.Boot.«len» (ac (pv 1) pa_nil)) pa_nil)) (fun _ _ _ _ => pg_name (i := 0) (show (["_law_k", "_law_found", "_law_due_here"] : List Str).Nodup by decide +kernel) rfl (Or.inl rfl)) (fun _ _ _ _ => (cFn (hkk := Nat.le_refl _) F__law_same hr passes0 (ac (pe_ix ix0L (pv 1) (pv 0) (fun _ _ => rfl)) (ac (pe_ix ix0L (pv 2) (pv 0) (fun _ _ => rfl)) pa_nil))))) pa_nil)))))))
        pss_nil)
      (pss_one (ps_ret (pe_and (cBi call_isi (by rfl) T.isinstance PyProof.Rows.Boot.«isinstance» (ac (pv 0) (ac (pe_ty rfl T.int PyProof.Rows.Boot.«int») pa_nil))) (pe_and (pe_not (cBi call_isi (by rfl) T.isinstance PyProof.Rows.Boot.«isinstance» (ac (pv 0) (ac (pe_ty rfl T.bool PyProof.Rows.Boot.«bool») pa_nil)))) (pe_one (pe_cmpR op_eq (pv 0) (pv 1) (nomark _)))))))), ?_⟩
    try (set_option simprocs false in dsimp only [cxOf])
    refine ⟨_, rfl, (by show 2 ≤ sizeLine; decide), fun p hp => ?_⟩
    have N := Same.new (o := .tup (["list", "tuple"].map V.ty)) hp
    have a1 := N _ _ e1
    have a2 := N _ _ e2
    refine ⟨_, _, p, ["list", "tuple"], _, rfl, TyOf.lst a2, upd_same, kit_llt K, _, rfl, iteT ?_⟩
    refine ⟨_, rfl, _, _, _, _, rfl, TyOf.lst a2, kit_ll K, _, rfl, _, _, _, _, rfl, TyOf.lst a1, kit_ll K, rfl, _, rfl, iteNS rfl ?_⟩
    refine ⟨_, rfl, _, _, _, _, rfl, TyOf.lst a2, kit_lt K, _, rfl, _, _, _, _, rfl, TyOf.lst a1, kit_lt K, rfl, _, rfl, iteNS rfl ?_⟩
    refine ⟨_, rfl, l1, _, rfl, .inl (SqL.of a1), _, rfl, l2, _, rfl, .inl (SqL.of a2), rfl, _, rfl, ?_⟩
    rw [decide_eq_true (show V.int (xs.length : Int) = V.int (ys.length : Int) by rw [hl])]
    refine iteT ⟨_, rfl, l2, _, rfl, .inl (SqL.of a2), _, rfl, ?_, ?_, ?_⟩
    · exact Int.le_trans (by decide) (Int.natCast_nonneg _)
    · exact Int.lt_of_le_of_lt (show (ys.length : Int) ≤ 100 by omega) (by decide)
    rw [Int.toNat_natCast]
    refine comp_each (J := Itr 0 ys.length) ys.length (Nat.lt_of_le_of_lt (show ys.length ≤ 100 by omega) (by decide)) (fun _ => V.bl true) (fun i _ h _ => h) (fun _ _ => Nat.le_refl _) ?_ ?_
    · rintro i x H' H'' Q' hi S ⟨rfl, rfl⟩ q
      have gx := List.getElem?_eq_getElem (l := xs) (i := i) (by omega)
      have gy := List.getElem?_eq_getElem (l := ys) (i := i) hi
      exact ⟨_, rfl, _, rfl, l1, _, _, _, rfl, rfl, SqL.of (S _ _ a1), atI_get gx, _, rfl, _, rfl, l2, _, _, _, rfl, rfl, SqL.of (S _ _ a2), atI_get gy, _, _, rfl, (hs i _ _ gx gy).up (N.trans S), fun H2 S2 => q H2 S2⟩
    · intro Dd H' hD S e
      rw [mapT] at e
      refine ⟨Dd, _, rfl, SqL.of e, ?_⟩
      rw [show ((List.range ys.length).map fun _ => true).all id = true by simp]
      exact k H' (N.trans S)
  | @tup _ l1 l2 xs ys e1 e2 hl h100 hs =>
    refine ⟨_, (pss_cons (ps_if (pt_val (cBi call_isiT (by rfl) T.isinstance PyProof.Rows.Boot.«isinstance» (ac (pv 1) (ac (pe_tup (ac (pe_ty rfl T.list PyProof.Rows.Boot.«list») (ac (pe_ty rfl T.tuple PyProof.Rows.Boot.«tuple») pa_nil))) pa_nil))))
        (pss_cons (ps_if (PW.pt (pw_or (pt_cmpR op_ne (cBi call_isi (by rfl) T.isinstance PyProof.Rows.Boot.«isinstance» (ac (pv 1) (ac (pe_ty rfl T.list PyProof.Rows.Boot.«list») pa_nil))) (cBi call_isi (by rfl) T.isinstance PyProof.Rows.Boot.«isinstance» (ac (pv 0) (ac (pe_ty rfl T.list PyProof.Rows.Boot.«list») pa_nil))) (nomark _)) (pw_or1 (pt_cmpR op_ne (cBi call_isi (by rfl) T.isinstance PyProof.Rows.Boot.«isinstance» (ac (pv 1) (ac (pe_ty rfl T.tuple PyProof.Rows.Boot.«tuple») pa_nil))) (cBi call_isi (by rfl) T.isinstance PyProof.Rows.Boot.«isinstance» (ac (pv 0) (ac (pe_ty rfl T.tuple PyProof.Rows.Boot.«tuple») pa_nil))) (nomark _)))))
          (pss_one (ps_ret pe_bl))
          pss_nil)
        (pss_one (ps_ret (pe_and (pe_cmpR op_eq (cBi call0len (by rfl) T.len PyProof.Rows.Boot.«len» (ac (pv 0) pa_nil)) (cBi call0len (by rfl) T.len PyProof.Rows.Boot.«len» (ac (pv 1) pa_nil)) (nomark _)) (pe_one (cBi (call_all rfl) (by rfl) T.all PyProof.Rows.Boot.«all» (ac (pe_comp (lv := 1) (caps := [0, 1]) (N' := ["_law_k", "_law_found", "_law_due_here"]) rfl (CompOk.caps (sc := defScope s__law_same) rfl (by decide +kernel) (by decide +kernel) (by decide +kernel) rfl rfl (compcap2 rfl rfl rfl rfl rfl rfl)) (keep_name (by decide)) (pi_range1 rfl T.range (ac (cBi call0len (by rfl) T.len PyProof.Rows.Boot.«len» (ac (pv 1) pa_nil)) pa_nil)) (fun _ _ _ _ => pg_name (i := 0) (show (["_law_k", "_law_found", "_law_due_here"] : List Str).Nodup by decide +kernel) rfl (Or.inl rfl)) (fun _ _ _ _ => (cFn (hkk := Nat.le_refl _) F__law_same hr passes0 (ac (pe_ix ix0T (pv 1) (pv 0) (fun _ _ => rfl)) (ac (pe_ix ix0T (pv 2) (pv 0) (fun _ _ => rfl)) pa_nil))))) pa_nil)))))))
        pss_nil)
      (pss_one (ps_ret (pe_and (cBi call_isi (by rfl) T.isinstance PyProof.Rows.Boot.«isinstance» (ac (pv 0) (ac (pe_ty rfl T.int PyProof.Rows.Boot.«int») pa_nil))) (pe_and (pe_not (cBi call_isi (by rfl) T.isinstance PyProof.Rows.Boot.«isinstance» (ac (pv 0) (ac (pe_ty rfl T.bool PyProof.Rows.Boot.«bool») pa_nil)))) (pe_one (pe_cmpR (op_eqDK K hr.units) (pv 0) (pv 1) (nomark _)))))))), ?_⟩
    try (set_option simprocs false in dsimp only [cxOf])
    refine ⟨_, rfl, (by show 2 ≤ sizeLine; decide), fun p hp => ?_⟩
    have N := Same.new (o := .tup (["list", "tuple"].map V.ty)) hp
    have a1 := N _ _ e1
    have a2 := N _ _ e2
    refine ⟨_, _, p, ["list", "tuple"], _, rfl, TyOf.tup a2, upd_same, kit_tlt K, _, rfl, iteT ?_⟩
    refine ⟨_, rfl, _, _, _, _, rfl, TyOf.tup a2, kit_tl K, _, rfl, _, _, _, _, rfl, TyOf.tup a1, kit_tl K, rfl, _, rfl, iteNS rfl ?_⟩
    refine ⟨_, rfl, _, _, _, _, rfl, TyOf.tup a2, kit_tt K, _, rfl, _, _, _, _, rfl, TyOf.tup a1, kit_tt K, rfl, _, rfl, iteNS rfl ?_⟩
    refine ⟨_, rfl, l1, _, rfl, .inr (SqT.of a1), _, rfl, l2, _, rfl, .inr (SqT.of a2), rfl, _, rfl, ?_⟩
    rw [decide_eq_true (show V.int (xs.length : Int) = V.int (ys.length : Int) by rw [hl])]
    refine iteT ⟨_, rfl, l2, _, rfl, .inr (SqT.of a2), _, rfl, ?_, ?_, ?_⟩
    · exact Int.le_trans (by decide) (Int.natCast_nonneg _)
    · exact Int.lt_of_le_of_lt (show (ys.length : Int) ≤ 100 by omega) (by decide)
    rw [Int.toNat_natCast]
    refine comp_each (J := Itr 0 ys.length) ys.length (Nat.lt_of_le_of_lt (show ys.length ≤ 100 by omega) (by decide)) (fun _ => V.bl true) (fun i _ h _ => h) (fun _ _ => Nat.le_refl _) ?_ ?_
    · rintro i x H' H'' Q' hi S ⟨rfl, rfl⟩ q
      have gx := List.getElem?_eq_getElem (l := xs) (i := i) (by omega)
      have gy := List.getElem?_eq_getElem (l := ys) (i := i) hi
      exact ⟨_, rfl, _, rfl, l1, _, _, _, rfl, rfl, SqT.of (S _ _ a1), atI_get gx, _, rfl, _, rfl, l2, _, _, _, rfl, rfl, SqT.of (S _ _ a2), atI_get gy, _, _, rfl, (hs i _ _ gx gy).up (N.trans S), fun H2 S2 => q H2 S2⟩
    · intro Dd H' hD S e
      rw [mapT] at e
      refine ⟨Dd, _, rfl, SqL.of e, ?_⟩
      rw [show ((List.range ys.length).map fun _ => true).all id = true by simp]
      exact k H' (N.trans S)
end
end K16
set_option Elab.async false
set_option linter.all false
set_option maxRecDepth 100000
set_option maxHeartbeats 4000000
namespace K16
open PySem L2 RF
seal L2.PE L2.PA L2.PS L2.PSs L2.PT L2.PG L2.PI L2.PK L2.PO L2.PEx L2.PSx L2.PSxs L2.PH L2.PW L2.PGs L2.PSet L2.OpR L2.CallR L2.SlR L2.IxR
section
variable {P : Program} {w : World} {K : PySem.W.Frag} {mg : Str → Option Value} {base : Heap} {cR cT cB cW cD cP cA cU : Addr}
inductive DueT (kept spare : List Int) (R1 R2 : List (List (List Int))) : Str → List (List (List Int)) → Prop
  | unl (h : ¬ Like R1 R2) : DueT kept spare R1 R2 "unlike" []
  | fig (hL : Like R1 R2) (h : ∃ f ∈ (R1 ++ R2).flatten, ¬ Valid (kept ++ spare) f) : DueT kept spare R1 R2 "figure" []
  | wrong (hL : Like R1 R2) (v : ∀ f ∈ (R1 ++ R2).flatten, Valid (kept ++ spare) f) (h : ∃ f ∈ (R1 ++ R2).flatten, WrongF kept spare f) : DueT kept spare R1 R2 "wrong" []
  | great (hL : Like R1 R2) (N1 N2 : List (List Int)) (r1 : RT kept spare N1 R1) (r2 : RT kept spare N2 R2) (h : ¬ FitsT kept N1 N2) : DueT kept spare R1 R2 "great" []
  | yes (hL : Like R1 R2) (N1 N2 : List (List Int)) (r1 : RT kept spare N1 R1) (r2 : RT kept spare N2 R2) (h : FitsT kept N1 N2) : DueT kept spare R1 R2 "" (prodT kept spare N1 N2)
inductive isp_askT (a b c : V) (H : Hp) (Q : VK) (E : XK) : Prop
  | mk (kept spare : List Int) (l1 l2 : Addr) (rs rs' : List Addr) (ass ass' : List (List Addr)) (R1 R2 : List (List (List Int))) (h0 : Bas H a kept spare) (h1 : b = .ref l1) (h2 : c = .ref l2) (e1 : H l1 = some (.lst (rs.map V.ref))) (e2 : H l2 = some (.lst (rs'.map V.ref))) (t1 : Tab H rs ass R1) (t2 : Tab H rs' ass' R2) (s1 : R1.length ≤ 20) (s2 : 1 ≤ R2.length) (s3 : R2.length ≤ 20) (s4 : ∀ r ∈ R1, r.length ≤ 20) (s5 : ∀ r ∈ R2, r.length ≤ 20)
      (q : ∀ z fss, DueT kept spare R1 R2 z fss → ∀ t lt rws bss H', Same H H' → H' t = some (.tup [.str z, .ref lt]) → H lt = none → H' lt = some (.lst (rws.map V.ref)) → FreshT H H' lt rws bss fss → Q (.ref t) H') : isp_askT a b c H Q E
noncomputable def sp_askT : Sp := Sp3 isp_askT
theorem FreshT.up {H H' H2 : Hp} {D : Addr} {rs : List Addr} {ass : List (List Addr)} {fss : List (List (List Int))} (h : FreshT H H' D rs ass fss) (S : Same H' H2) : FreshT H H2 D rs ass fss := ⟨h.tab.up S, h.newR, h.newF, h.ndR, h.ndF⟩
theorem FreshT.from {H0 H H' : Hp} {D : Addr} {rs : List Addr} {ass : List (List Addr)} {fss : List (List (List Int))} (h : FreshT H H' D rs ass fss) (S : Same H0 H) : FreshT H0 H' D rs ass fss := ⟨h.tab, fun a ha => ⟨S.free (h.newR a ha).1, (h.newR a ha).2⟩, fun a ha => ⟨S.free (h.newF a ha).1, (h.newF a ha).2⟩, h.ndR, h.ndF⟩
theorem FreshT.nil {H H' : Hp} {D : Addr} : FreshT H H' D [] [] [] := ⟨.nil, (fun _ z => nomatch z), (fun _ z => nomatch z), List.nodup_nil, List.nodup_nil⟩
noncomputable abbrev s__law_asked : Stmt := top 48
theorem sc__law_asked : FnScope ["_law_base", "_law_one", "_law_other", "_law_found", "_law_told", "e"] ["_law_base", "_law_one", "_law_other"] (defScope s__law_asked) := ⟨rfl, rfl, rfl, by decide +kernel, rfl, by decide +kernel, by decide +kernel⟩
theorem b__law_asked : BindsAll "_law_asked" s__law_asked ["_law_base", "_law_one", "_law_other"] := binds3 fun _ _ _ _ _ _ _ _ _ => rfl
theorem ok_asked (D : Def K mg "_law_asked" s__law_asked) (T : Txt K mg cR cT cB cW cD cP cA cU) (G : Cs K cR cT cB cW cD cP cA cU) (F_table_product : FnS P w K mg base "table_product" ["base", "one", "other"] 47 (sp_tprod cU cB cW cT)) (F__law_class : FnM P w K mg base "_law_class" ["_law_caught"] 1 (sp_class K cR cT cB cW cD cP cA cU)) :
    FnS P w K mg base "_law_asked" ["_law_base", "_law_one", "_law_other"] 48 sp_askT := by
  refine D.ok sc__law_asked b__law_asked sp3_len fun f cdv A outer s H vs Q E hr h => ?_
  obtain ⟨_, _, _, rfl, kept, spare, l1, l2, rs, rs', ass, ass', R1, R2, B, rfl, rfl, e1, e2, t1, t2, s1, s2, s3, s4, s5, q⟩ := h
  refine ⟨_, (pss_cons (ps_set (i := 3) sc__law_asked.nd rfl (Or.inl rfl) (pe_lst pa_nil))
      (pss_cons (ps_set (i := 4) sc__law_asked.nd rfl (Or.inl rfl) pe_str)
      (pss_cons (ps_try own_cx (psxs_one (psx_set (i := 3) sc__law_asked.nd rfl (Or.inl rfl) (xFn own_cx F_table_product hr (ac (pv 0) (ac (pv 1) (ac (pv 2) pa_nil))))))
        (ph_as (i := 5) own_cx T.RestError sc__law_asked.nd rfl rfl (fun _ => (pss_one (ps_set (i := 4) sc__law_asked.nd rfl (Or.inl rfl) (cFnM F__law_class (hr.marked _) (ac (pv 5) pa_nil))))) ph_nil))
      (pss_one (ps_ret (pe_tup (ac (pv 4) (ac (pv 3) pa_nil)))))))), ?_⟩
  try (set_option simprocs false in dsimp only [cxOf])
  have two : ∀ {a : V} {b : V}, ([a, b] : List V).length ≤ sizeLine := fun {_ _} => by show 2 ≤ sizeLine; decide
  refine ⟨by decide, fun p0 f0 => ?_⟩
  have N := Same.new (o := .lst []) f0
  have ep0 : upd H p0 (.lst []) p0 = some (.lst (([] : List Addr).map V.ref)) := upd_same
  generalize upd H p0 (.lst []) = H0 at *
  refine ⟨_, rfl, _, rfl, _, rfl, _, _, _, rfl, kept, spare, l1, l2, rs, rs', ass, ass', R1, R2, B.up N, rfl, rfl, N _ _ e1, N _ _ e2, t1.up N, t2.up N, s1, s2, s3, s4, s5, ?_, ?_, ?_, ?_, ?_⟩
  · intro hL H1 S1
    obtain ⟨j, hj, hw⟩ := G.unlike
    refine .inl ⟨hj.r, cU, rfl, fun ea hea => ⟨_, rfl, _, rfl, ea, cU, j, "unlike", rfl, upd_same, hj, hw, fun H2 S2 => ?_⟩⟩
    refine ⟨_, rfl, _, rfl, two, fun t ft => ?_⟩
    have M := Same.new (o := .tup [.str "unlike", .ref p0]) ft
    have A2 := S1.trans ((Same.new hea).trans (S2.trans M))
    exact q _ _ (.unl hL) t p0 [] [] _ (N.trans A2) upd_same f0 (A2 _ _ ep0) .nil
  · intro hL hx H1 S1
    obtain ⟨j, hj, hw⟩ := G.fig
    refine .inl ⟨hj.r, cB, rfl, fun ea hea => ⟨_, rfl, _, rfl, ea, cB, j, "figure", rfl, upd_same, hj, hw, fun H2 S2 => ?_⟩⟩
    refine ⟨_, rfl, _, rfl, two, fun t ft => ?_⟩
    have M := Same.new (o := .tup [.str "figure", .ref p0]) ft
    have A2 := S1.trans ((Same.new hea).trans (S2.trans M))
    exact q _ _ (.fig hL hx) t p0 [] [] _ (N.trans A2) upd_same f0 (A2 _ _ ep0) .nil
  · intro hL hv hx H1 S1
    obtain ⟨j, hj, hw⟩ := G.wrong
    refine .inl ⟨hj.r, cW, rfl, fun ea hea => ⟨_, rfl, _, rfl, ea, cW, j, "wrong", rfl, upd_same, hj, hw, fun H2 S2 => ?_⟩⟩
    refine ⟨_, rfl, _, rfl, two, fun t ft => ?_⟩
    have M := Same.new (o := .tup [.str "wrong", .ref p0]) ft
    have A2 := S1.trans ((Same.new hea).trans (S2.trans M))
    exact q _ _ (.wrong hL hv hx) t p0 [] [] _ (N.trans A2) upd_same f0 (A2 _ _ ep0) .nil
  · intro hL N1 N2 r1 r2 hx H1 S1
    obtain ⟨j, hj, hw⟩ := G.great
    refine .inl ⟨hj.r, cT, rfl, fun ea hea => ⟨_, rfl, _, rfl, ea, cT, j, "great", rfl, upd_same, hj, hw, fun H2 S2 => ?_⟩⟩
    refine ⟨_, rfl, _, rfl, two, fun t ft => ?_⟩
    have M := Same.new (o := .tup [.str "great", .ref p0]) ft
    have A2 := S1.trans ((Same.new hea).trans (S2.trans M))
    exact q _ _ (.great hL N1 N2 r1 r2 hx) t p0 [] [] _ (N.trans A2) upd_same f0 (A2 _ _ ep0) .nil
  · intro hL N1 N2 r1 r2 hf lt rws bss H1 S1 hlt elt FT
    refine ⟨_, rfl, _, rfl, two, fun t ft => ?_⟩
    have M := Same.new (o := .tup [.str "", .ref lt]) ft
    exact q _ _ (.yes hL N1 N2 r1 r2 hf) t lt rws bss _ (N.trans (S1.trans M)) upd_same (N.free hlt) (M _ _ elt) ((FT.up M).from N)
inductive isp_ltab (a b c d : V) (H : Hp) (Q : VK) (E : XK) : Prop
  | mk (kept spare : List Int) (nb : Int) (n m : Nat) (h0 : Bas H a kept spare) (h1 : b = .int nb) (h2 : c = .int (n : Int)) (h3 : d = .int (m : Int)) (s1 : n ≤ 20) (s2 : m ≤ 20)
      (q : ∀ l as N H', Same H H' → H' l = some (.lst (as.map V.ref)) → Figs H' as N → N.length = n → (∀ r ∈ N, r.length = m ∧ ∀ x ∈ r, Fits kept x) → Q (.ref l) H') : isp_ltab a b c d H Q E
noncomputable def sp_ltab : Sp := Sp4 isp_ltab
noncomputable def Gr (g : St → Hp → Prop) : St → Hp → Prop := g
noncomputable abbrev s__law_table : Stmt := top 49
theorem sc__law_table : FnScope ["_law_base", "_law_number", "_law_rows", "_law_columns", "_law_made", "_law_i", "_law_row", "_law_j", "_law_more", "_law_one"] ["_law_base", "_law_number", "_law_rows", "_law_columns"] (defScope s__law_table) := ⟨rfl, rfl, rfl, by decide +kernel, rfl, by decide +kernel, by decide +kernel⟩
theorem b__law_table : BindsAll "_law_table" s__law_table ["_law_base", "_law_number", "_law_rows", "_law_columns"] := binds4 fun _ _ _ _ _ _ _ _ _ _ => rfl
theorem ok_ltab (D : Def K mg "_law_table" s__law_table) (T : Txt K mg cR cT cB cW cD cP cA cU) (F__law_mixed : FnS P w K mg base "_law_mixed" ["_law_number", "_law_k"] 1 sp_mixed) (F__law_fitting : FnS P w K mg base "_law_fitting" ["_law_base", "_law_cell"] 2 sp_fitting) (F__law_fits : FnS P w K mg base "_law_fits" ["_law_base", "_law_number"] 2 sp_fits) : FnS P w K mg base "_law_table" ["_law_base", "_law_number", "_law_rows", "_law_columns"] 3 sp_ltab := by
  refine D.ok sc__law_table b__law_table sp4_len fun f cdv A outer s H vs Q E hr h => ?_
  obtain ⟨_, _, _, _, rfl, kept, spare, nb, n, m, B, rfl, rfl, rfl, s1, s2, q⟩ := h
  obtain ⟨⟨tb, rfl, hb⟩, gb⟩ := id B
  refine ⟨_, (pss_cons (ps_set (i := 4) sc__law_table.nd rfl (Or.inl rfl) (pe_lst pa_nil))
      (pss_cons (ps_for own_pass rfl (pi_range1 rfl T.range (ac (pv 2) pa_nil)) (pg_name (i := 5) sc__law_table.nd rfl (Or.inl rfl))
        (pss_cons (ps_set (i := 6) sc__law_table.nd rfl (Or.inl rfl) (pe_lst pa_nil))
        (pss_cons (ps_for own_pass rfl (pi_range1 rfl T.range (ac (pv 3) pa_nil)) (pg_name (i := 7) sc__law_table.nd rfl (Or.inl rfl))
          (pss_cons (ps_set (i := 8) sc__law_table.nd rfl (Or.inl rfl) (cFn F__law_mixed hr passes0 (ac (pv 1) (ac (pe_op op_add (pe_op op_add pe_int (pe_op op_mul pe_int (pv 5))) (pv 7)) pa_nil))))
          (pss_cons (ps_set (i := 9) sc__law_table.nd rfl (Or.inl rfl) (pe_op op_sub (pe_op op_mod (pv 8) pe_int) pe_int))
          (pss_cutF (Gr) (ps_if (PW.pt (pw_and (pt_cmpR op_eq (pe_op op_mod (pv 1) pe_int) pe_int (nomark _)) (pw_and1 (pt_cmpR op_eq (pe_op op_mod (pe_op op_fdiv (pv 8) pe_int) pe_int) pe_int (nomark _)))))
            (pss_one (ps_set (i := 9) sc__law_table.nd rfl (Or.inl rfl) (cFn F__law_fitting hr passes0 (ac (pv 0) (ac (pv 8) pa_nil)))))
            pss_nil)
          (pss_cutF (Gr) (ps_if (pt_not (pt_val (cFn F__law_fits hr passes0 (ac (pv 0) (ac (pv 9) pa_nil)))))
            (pss_one (ps_set (i := 9) sc__law_table.nd rfl (Or.inl rfl) pe_int))
            pss_nil)
          (pss_one (ps_expr (pe_bm PySem.F.plainAttrs_list PySem.F.slot_list_append PySem.F.type_list_append mt_append (pv 6) (ac (pv 9) pa_nil)))))))))
        (pss_one (ps_expr (pe_bm PySem.F.plainAttrs_list PySem.F.slot_list_append PySem.F.type_list_append mt_append (pv 4) (ac (pv 6) pa_nil)))))))
      (pss_one (ps_ret (pv 4))))), ?_⟩
  try (set_option simprocs false in dsimp only [cxOf])
  have s300 : (300 : Nat) ≤ sizeLine := by decide
  refine ⟨by decide, fun lm fm => ?_⟩
  have N0 := Same.new (o := .lst []) fm
  refine ⟨_, rfl, _, rfl, by omega, by omega, for_range (lo := 0) (n := n) (fun i σ H' => ∃ (y5 y6 y7 y8 y9 : Option V) (as : List Addr) (N : List (List Int)), σ = [some (.ref tb), some (.int nb), some (.int (n : Int)), some (.int (m : Int)), some (.ref lm), y5, y6, y7, y8, y9] ∧ Same H H' ∧ H' lm = some (.lst (as.map V.ref)) ∧ Figs H' as N ∧ N.length = i ∧ (∀ r ∈ N, r.length = m ∧ ∀ x ∈ r, Fits kept x) ∧ lm ∉ as)
    ⟨_, _, _, _, _, [], [], rfl, N0, upd_same, .nil, rfl, (fun _ z => nomatch z), fun z => nomatch z⟩ ?_ ?_⟩
  rotate_left
  · rintro σ H' ⟨y5, y6, y7, y8, y9, as, N, rfl, S, el, F, hl, hN, _⟩
    exact ⟨_, rfl, q lm as N H' S el F hl hN⟩
  rintro i σ H1 hi ⟨y5, y6, y7, y8, y9, as, N, rfl, S, el, F, hl, hN, nm⟩
  refine ⟨by decide, fun lr fr => ?_⟩
  have N1 := Same.new (o := .lst []) fr
  have nr : lr ≠ lm := fun z => by rw [z, el] at fr; cases fr
  refine ⟨_, rfl, _, rfl, by omega, by omega, for_range (lo := 0) (n := m) (fun j σ H' => ∃ (y7 y8 y9 : Option V) (ns : List Int), σ = [some (.ref tb), some (.int nb), some (.int (n : Int)), some (.int (m : Int)), some (.ref lm), some (.int (0 + (i : Int))), some (.ref lr), y7, y8, y9] ∧ Same H1 H' ∧ H' lr = some (.lst (ns.map V.int)) ∧ ns.length = j ∧ ∀ x ∈ ns, Fits kept x)
    ⟨_, _, _, [], rfl, N1, upd_same, rfl, fun _ z => nomatch z⟩ ?_ ?_⟩
  rotate_left
  · rintro σ H2 ⟨y7, y8, y9, ns, rfl, S2, er, nl, hf⟩
    have el2 := S2 _ _ el
    have al : as.length = i := by rw [F.len, hl]
    refine ⟨_, rfl, .inl ⟨rfl, _, SqL.of el2⟩, _, rfl, lm, _, _, rfl, rfl, el2, by rw [List.length_map]; omega, ?_⟩
    refine ⟨_, _, _, _, _, as ++ [lr], N ++ [ns], rfl, (S.trans S2).upd fm, by rw [upd_same, List.map_append]; rfl, ?_, by rw [List.length_append, hl]; rfl, fun r hr' => ?_, fun z => ?_⟩
    · refine Figs.but (D := lm) (H := H2) (fun b o hb eo => by rw [upd_ne hb]; exact eo) ((F.up S2).append (.cons er .nil)) fun z => ?_
      rcases List.mem_append.mp z with z | z
      · exact nm z
      · exact nr (List.mem_singleton.mp z).symm
    · rcases List.mem_append.mp hr' with hr' | hr'
      · exact hN r hr'
      · rw [List.mem_singleton.mp hr']; exact ⟨nl, hf⟩
    · rcases List.mem_append.mp z with z | z
      · exact nm z
      · exact nr (List.mem_singleton.mp z).symm
  rintro j σ H2 hj ⟨y7, y8, y9, ns, rfl, S2, er, nl, hf⟩
  have B2 := B.up (S.trans S2)
  refine ⟨_, rfl, _, rfl, _, _, rfl, rfl, .inl ⟨by decide, by decide⟩, _, _, rfl, rfl, _, rfl, _, _, rfl, rfl, _, _, rfl, nb, _, rfl, rfl, by omega, by omega, fun mo mo0 mo1 => ?_⟩
  refine ⟨_, rfl, _, _, rfl, rfl, (by show (0 : Int) < 13; decide), _, _, rfl, rfl, ?_⟩
  refine ⟨fun σ H' => ∃ x : Int, σ = [some (.ref tb), some (.int nb), some (.int (n : Int)), some (.int (m : Int)), some (.ref lm), some (.int (0 + (i : Int))), some (.ref lr), some (.int (0 + (j : Int))), some (.int mo), some (.int x)] ∧ H' = H2, ?_, ?_⟩
  rotate_left
  · exact ⟨_, rfl, _, _, rfl, rfl, (by show (0 : Int) < 3; decide), rfl, _, rfl, ite2 (fun _ => ⟨_, rfl, _, _, rfl, rfl, ⟨by decide, by decide⟩, _, _, rfl, rfl, (by show (0 : Int) < 6; decide), rfl, _, rfl, ite2 (fun _ => ⟨_, rfl, _, rfl, _, _, rfl, kept, spare, mo, B2, rfl, fun x x0 x1 => ⟨x, rfl, rfl⟩⟩) (fun _ => ⟨_, rfl, rfl⟩)⟩) (fun _ => iteF ⟨_, rfl, rfl⟩)⟩
  rintro _ H3 ⟨x, rfl, rfl⟩
  refine ⟨fun σ H' => ∃ x : Int, σ = [some (.ref tb), some (.int nb), some (.int (n : Int)), some (.int (m : Int)), some (.ref lm), some (.int (0 + (i : Int))), some (.ref lr), some (.int (0 + (j : Int))), some (.int mo), some (.int x)] ∧ H' = H3 ∧ Fits kept x, ?_, ?_⟩
  rotate_left
  · refine ⟨_, rfl, _, rfl, _, _, rfl, kept, spare, x, B2, rfl, _, rfl, ?_⟩
    by_cases hx : Fits kept x
    · rw [decide_eq_true hx]; exact iteF ⟨x, rfl, rfl, hx⟩
    · rw [decide_eq_false hx]; exact iteT ⟨0, rfl, rfl, fits_zero gb⟩
  rintro _ H4 ⟨x, rfl, rfl, hx⟩
  refine ⟨_, rfl, .inl ⟨rfl, _, SqL.of er⟩, _, rfl, lr, _, _, rfl, rfl, er, by rw [List.length_map]; omega, ?_⟩
  refine ⟨_, _, _, ns ++ [x], rfl, S2.upd fr, by rw [upd_same, List.map_append]; rfl, by rw [List.length_append, nl]; rfl, fun y hy => ?_⟩
  rcases List.mem_append.mp hy with hy | hy
  · exact hf y hy
  · rw [List.mem_singleton.mp hy]; exact hx
end
end K16
set_option Elab.async false
set_option linter.all false
set_option maxRecDepth 100000
set_option maxHeartbeats 4000000
namespace K16
open PySem L2 RF
seal L2.PE L2.PA L2.PS L2.PSs L2.PT L2.PG L2.PI L2.PK L2.PO L2.PEx L2.PSx L2.PSxs L2.PH L2.PW L2.PGs L2.PSet L2.OpR L2.CallR L2.SlR L2.IxR
section
variable {P : Program} {w : World} {K : PySem.W.Frag} {mg : Str → Option Value} {base : Heap} {cR cT cB cW cD cP cA cU : Addr}
inductive PDue (kept spare : List Int) (N1 N2 : List (List Int)) (ws : List Str) : Str → List (List (List Int)) → Prop
  | fig (h : ("figure" : Str) ∈ ws) : PDue kept spare N1 N2 ws "figure" []
  | wrong (h : ("figure" : Str) ∉ ws) (h' : ("wrong" : Str) ∈ ws) : PDue kept spare N1 N2 ws "wrong" []
  | great (h : ("figure" : Str) ∉ ws) (h' : ("wrong" : Str) ∉ ws) (hf : ¬ FitsT kept N1 N2) : PDue kept spare N1 N2 ws "great" []
  | yes (h : ("figure" : Str) ∉ ws) (h' : ("wrong" : Str) ∉ ws) (hf : FitsT kept N1 N2) : PDue kept spare N1 N2 ws "" (prodT kept spare N1 N2)
theorem due_cases {kept spare : List Int} {x : Int} {ws : List Str} : (∃ z, dueOf kept spare x ws = (z, []) ∧ z ≠ "" ∧ ∀ {N1 N2 : List (List Int)}, (¬ Fits kept x → ¬ FitsT kept N1 N2) → PDue kept spare N1 N2 ws z []) ∨ (dueOf kept spare x ws = (("" : Str), rests (kept ++ spare) x) ∧ ("figure" : Str) ∉ ws ∧ ("wrong" : Str) ∉ ws ∧ Fits kept x) := by
  unfold dueOf
  by_cases h1 : ("figure" : Str) ∈ ws
  · rw [if_pos h1]; exact .inl ⟨"figure", rfl, by decide, fun _ => .fig h1⟩
  · rw [if_neg h1]
    by_cases h2 : ("wrong" : Str) ∈ ws
    · rw [if_pos h2]; exact .inl ⟨"wrong", rfl, by decide, fun _ => .wrong h1 h2⟩
    · rw [if_neg h2]
      by_cases h3 : Fits kept x
      · rw [if_pos h3]; exact .inr ⟨rfl, h1, h2, h3⟩
      · rw [if_neg h3]; exact .inl ⟨"great", rfl, by decide, fun h => .great h1 h2 (h h3)⟩
inductive isp_pdue (a b c d : V) (H : Hp) (Q : VK) (E : XK) : Prop
  | mk (kept spare : List Int) (l1 l2 lw : Addr) (as1 as2 : List Addr) (N1 N2 : List (List Int)) (ws : List Str) (h0 : Bas H a kept spare) (h1 : b = .ref l1) (e1 : H l1 = some (.lst (as1.map V.ref))) (F1 : Figs H as1 N1) (h2 : c = .ref l2) (e2 : H l2 = some (.lst (as2.map V.ref))) (F2 : Figs H as2 N2) (h3 : d = .ref lw) (e3 : H lw = some (.lst (ws.map V.str))) (hw : ws.length ≤ 2)
      (r1 : ∀ r ∈ N1, r.length = N2.length) (r2 : ∀ r ∈ N2, r.length = (N2.headD []).length) (s1 : 1 ≤ N1.length) (s2 : N1.length ≤ 20) (s3 : 1 ≤ N2.length) (s4 : N2.length ≤ 20) (s5 : 1 ≤ (N2.headD []).length) (s6 : (N2.headD []).length ≤ 20) (f1 : ∀ r ∈ N1, ∀ x ∈ r, Fits kept x) (f2 : ∀ r ∈ N2, ∀ x ∈ r, Fits kept x)
      (q : ∀ z fss, PDue kept spare N1 N2 ws z fss → ∀ t lt rws bss H', Same H H' → H' t = some (.tup [.str z, .ref lt]) → H' lt = some (.lst (rws.map V.ref)) → Tab H' rws bss fss → Q (.ref t) H') : isp_pdue a b c d H Q E
noncomputable def sp_pdue : Sp := Sp4 isp_pdue
theorem refs_at0 {as : List Addr} (h : 1 ≤ as.length) : ∃ a, as[0]? = some a ∧ atI (as.map V.ref) 0 = some (.ref a) := by
  have hz := List.getElem?_eq_getElem (l := as) (i := 0) h
  exact ⟨_, hz, atI_nat (j := 0) (xs := as.map V.ref) (by rw [List.getElem?_map, hz]; rfl)⟩
theorem refs_atI {as : List Addr} {i : Nat} (h : i < as.length) : ∃ a, as[i]? = some a ∧ atI (as.map V.ref) (0 + (i : Int)) = some (.ref a) := by
  have hz := List.getElem?_eq_getElem (l := as) (i := i) h
  exact ⟨_, hz, atI_get (by rw [List.getElem?_map, hz]; rfl)⟩
theorem col_at {N : List (List Int)} {j i : Nat} {r : List Int} (h : N[i]? = some r) : (colOf N j).getD i 0 = r.getD j 0 := by
  unfold colOf
  rw [List.getD_eq_getElem?_getD, List.getElem?_map, h]; rfl
theorem cols_take {N : List (List Int)} {j : Nat} (h : j < (N.headD []).length) : (colsOf N)[j]? = some (colOf N j) := by
  unfold colsOf
  rw [List.getElem?_map, List.getElem?_range h]; rfl
theorem ne_con {H : Hp} {a b : Addr} {as : List Addr} {f : List Int} (h : H a = some (.lst (as.map V.ref))) (h' : H b = some (.lst (f.map V.int))) (hf : f ≠ []) : b ≠ a := fun z => by
  rw [z, h] at h'
  have e9 : as.map V.ref = f.map V.int := by injection (Option.some.inj h')
  cases f with
  | nil => exact hf rfl
  | cons x f =>
    cases as with
    | nil => cases e9
    | cons y as =>
      rw [List.map_cons, List.map_cons] at e9
      injection e9 with e _
      cases e
theorem rests_ne {kept spare : List Int} (gb : GoodBase kept spare) (x : Int) : rests (kept ++ spare) x ≠ [] := fun z => by
  have h1 := gb.k1
  have := congrArg List.length z
  unfold rests at this
  rw [List.length_map, List.length_append, List.length_nil] at this
  omega
theorem iteTe2 {c : Bool} {A B : Prop} (h : c = true) (a : A) : if c = true then A else B := by rw [if_pos h]; exact a
theorem iteFe2 {c : Bool} {A B : Prop} (h : c = false) (b : B) : if c = true then A else B := by rw [if_neg (by rw [h]; exact Bool.false_ne_true)]; exact b
noncomputable abbrev s__law_product_due : Stmt := top 51
theorem sc__law_product_due : FnScope ["_law_base", "_law_ones", "_law_others", "_law_words", "_law_figures_here", "_law_row", "_law_told", "_law_j", "_law_whole", "_law_due_here"] ["_law_base", "_law_ones", "_law_others", "_law_words"] (defScope s__law_product_due) := ⟨rfl, rfl, rfl, by decide +kernel, rfl, by decide +kernel, by decide +kernel⟩
theorem b__law_product_due : BindsAll "_law_product_due" s__law_product_due ["_law_base", "_law_ones", "_law_others", "_law_words"] := binds4 fun _ _ _ _ _ _ _ _ _ _ => rfl
theorem ok_pdue (D : Def K mg "_law_product_due" s__law_product_due) (T : Txt K mg cR cT cB cW cD cP cA cU) (F__law_due : FnS P w K mg base "_law_due" ["_law_base", "_law_number", "_law_words"] 3 sp_due) : FnS P w K mg base "_law_product_due" ["_law_base", "_law_ones", "_law_others", "_law_words"] 4 sp_pdue := by
  refine D.ok sc__law_product_due b__law_product_due sp4_len fun f cdv A outer s H vs Q E hr h => ?_
  obtain ⟨_, _, _, _, rfl, kept, spare, l1, l2, lw, as1, as2, N1, N2, ws, B, rfl, e1, F1, rfl, e2, F2, rfl, e3, hw, r1, r2, s1, s2, s3, s4, s5, s6, f1, f2, q⟩ := h
  obtain ⟨⟨tb, rfl, hb⟩, gb⟩ := id B
  refine ⟨_, (pss_cons (ps_set (i := 4) sc__law_product_due.nd rfl (Or.inl rfl) (pe_lst pa_nil))
      (pss_cons (ps_for own_pass rfl (pi_list (pv 1)) (pg_name (i := 5) sc__law_product_due.nd rfl (Or.inr rfl))
        (pss_cons (ps_set (i := 6) sc__law_product_due.nd rfl (Or.inl rfl) (pe_lst pa_nil))
        (pss_cons (ps_for own_pass rfl (pi_range1 rfl T.range (ac (cBi call0len (by rfl) T.len PyProof.Rows.Boot.«len» (ac (pe_ix ix0L (pv 2) pe_int (fun _ _ => rfl)) pa_nil)) pa_nil)) (pg_name (i := 7) sc__law_product_due.nd rfl (Or.inr rfl))
          (pss_cons (ps_set (i := 8) sc__law_product_due.nd rfl (Or.inl rfl) (cBi (call_sumL rfl) (by rfl) T.sum PyProof.Rows.Boot.«sum» (ac (pe_comp (lv := 1) (caps := [5, 7, 2]) (N' := ["_law_k", "_law_row", "_law_j", "_law_others"]) rfl (CompOk.caps (sc := defScope s__law_product_due) rfl (by decide +kernel) (by decide +kernel) (by decide +kernel) rfl rfl (compcap3 rfl rfl rfl rfl rfl rfl rfl rfl rfl)) (keep_name (by decide)) (pi_range1 rfl T.range (ac (cBi call0len (by rfl) T.len PyProof.Rows.Boot.«len» (ac (pv 5) pa_nil)) pa_nil)) (fun _ _ _ _ => pg_name (i := 0) (show (["_law_k", "_law_row", "_law_j", "_law_others"] : List Str).Nodup by decide +kernel) rfl (Or.inl rfl)) (fun _ _ _ _ => (pe_op op_mulB (pe_ix ix0L (pv 1) (pv 0) (fun _ _ => rfl)) (pe_ix ix0L (pe_ix ix0L (pv 3) (pv 0) (fun _ _ => rfl)) (pv 2) (fun _ _ => rfl))))) pa_nil)))
          (pss_cons (ps_set (i := 9) sc__law_product_due.nd rfl (Or.inl rfl) (cFn F__law_due hr passes0 (ac (pv 0) (ac (pv 8) (ac (pv 3) pa_nil)))))
          (pss_cons (ps_if (pt_cmpR op_ne (pe_ix ix0T (pv 9) pe_int (fun _ _ => rfl)) pe_str (nomark _))
            (pss_one (ps_ret (pe_tup (ac (pe_ix ix0T (pv 9) pe_int (fun _ _ => rfl)) (ac (pe_lst pa_nil) pa_nil)))))
            pss_nil)
          (pss_one (ps_expr (pe_bm PySem.F.plainAttrs_list PySem.F.slot_list_append PySem.F.type_list_append mt_append (pv 6) (ac (pe_ix ix0T (pv 9) pe_int (fun _ _ => rfl)) pa_nil))))))))
        (pss_one (ps_expr (pe_bm PySem.F.plainAttrs_list PySem.F.slot_list_append PySem.F.type_list_append mt_append (pv 4) (ac (pv 6) pa_nil)))))))
      (pss_one (ps_ret (pe_tup (ac pe_str (ac (pv 4) pa_nil))))))), ?_⟩
  try (set_option simprocs false in dsimp only [cxOf])
  have s300 : (300 : Nat) ≤ sizeLine := by decide
  have two : ∀ {a : V} {b : V}, ([a, b] : List V).length ≤ sizeLine := fun {_ _} => by show 2 ≤ sizeLine; decide
  have L1 := F1.len
  have L2 := F2.len
  refine ⟨by decide, fun lf ff => ?_⟩
  have N0 := Same.new (o := .lst []) ff
  refine ⟨_, rfl, l1, rfl, ⟨_, SqL.of (N0 _ _ e1)⟩, for_list (K := K) (xs := as1.map V.ref) (fun i σ H' => ∃ (y5 y6 y7 y8 y9 : Option V) (rws : List Addr) (bss : List (List Addr)), σ = [some (.ref tb), some (.ref l1), some (.ref l2), some (.ref lw), some (.ref lf), y5, y6, y7, y8, y9] ∧ Same H H' ∧ H' lf = some (.lst (rws.map V.ref)) ∧ Tab H' rws bss (prodT kept spare (N1.take i) N2) ∧ lf ∉ rws ∧ lf ∉ bss.flatten ∧ FitsT kept (N1.take i) N2 ∧ (0 < i → ("figure" : Str) ∉ ws ∧ ("wrong" : Str) ∉ ws))
    ⟨_, _, _, _, _, [], [], rfl, N0, upd_same, .nil, (fun z => nomatch z), (fun z => nomatch z), (fun _ z => nomatch z), fun h => absurd h (Nat.lt_irrefl 0)⟩ (fun i σ H' _ ⟨_, _, _, _, _, _, _, _, S, _⟩ => SqL.of (S _ _ e1)) ?_ ?_⟩
  rotate_left
  · rintro σ H' ⟨y5, y6, y7, y8, y9, rws, bss, rfl, S, el, TB, _, _, fit, no⟩
    have TB : Tab H' rws bss (prodT kept spare (N1.take (as1.map V.ref).length) N2) := TB
    have fit : FitsT kept (N1.take (as1.map V.ref).length) N2 := fit
    have no : 0 < (as1.map V.ref).length → ("figure" : Str) ∉ ws ∧ ("wrong" : Str) ∉ ws := no
    rw [List.length_map, L1] at no TB fit
    rw [List.take_length] at TB fit
    obtain ⟨n1, n2⟩ := no (by omega)
    refine ⟨_, rfl, two, fun t ft => ?_⟩
    have M := Same.new (o := .tup [.str "", .ref lf]) ft
    exact q _ _ (.yes n1 n2 fit) t lf rws bss _ (S.trans M) upd_same (M _ _ el) (TB.up M)
  rintro i x σ H1 hx ⟨y5, y6, y7, y8, y9, rws, bss, rfl, S1, el, TB, nl, nf, fit, no⟩
  obtain ⟨r, hr', rfl⟩ := refs_at hx
  obtain ⟨ns, hns, er⟩ := F1.get hr'
  have hm := List.mem_of_getElem? hns
  have hi : i < N1.length := (List.getElem?_eq_some_iff.mp hns).1
  have tk : N1.take (i + 1) = N1.take i ++ [ns] := by rw [List.take_add_one, hns]; rfl
  have nsl := r1 ns hm
  have rl : rws.length = i := by rw [TB.len]; unfold prodT; rw [List.length_map, List.length_take]; omega
  refine ⟨by decide, fun lr fr => ?_⟩
  have NR := Same.new (o := .lst []) fr
  have nlr : lr ≠ lf := fun z => by rw [z, el] at fr; cases fr
  obtain ⟨a0, ha0, at0⟩ := refs_at0 (as := as2) (by omega)
  obtain ⟨c0, hc0, ec0⟩ := F2.get ha0
  have hd0 : N2.headD [] = c0 := by
    cases N2 with
    | nil => cases hc0
    | cons a b => cases hc0; rfl
  have S01 := S1.trans NR
  refine ⟨_, rfl, l2, _, _, _, rfl, rfl, SqL.of (S01 _ _ e2), at0, a0, _, rfl, .inl (SqL.of (S01 _ _ ec0)), ?_⟩
  rw [List.length_map, ← hd0]
  refine ⟨_, rfl, by omega, by omega, for_range (lo := 0) (n := (N2.headD []).length) (fun j σ H' => ∃ (y7 y8 y9 : Option V) (as : List Addr), σ = [some (.ref tb), some (.ref l1), some (.ref l2), some (.ref lw), some (.ref lf), some (.ref r), some (.ref lr), y7, y8, y9] ∧ Same H1 H' ∧ H' lr = some (.lst (as.map V.ref)) ∧ Figs H' as (prodR kept spare ns ((colsOf N2).take j)) ∧ lr ∉ as ∧ lf ∉ as ∧ (∀ c ∈ (colsOf N2).take j, Fits kept (dot ns c)) ∧ (0 < j → ("figure" : Str) ∉ ws ∧ ("wrong" : Str) ∉ ws))
    ⟨_, _, _, [], rfl, NR, upd_same, .nil, (fun z => nomatch z), (fun z => nomatch z), (fun _ z => nomatch z), fun h => absurd h (Nat.lt_irrefl 0)⟩ ?_ ?_⟩
  rotate_left
  · rintro σ H2 ⟨y7, y8, y9, as, rfl, S2, elr, FR, n1, n2, fitr, nor⟩
    have cl : (colsOf N2).take (N2.headD []).length = colsOf N2 := List.take_of_length_le (by unfold colsOf; rw [List.length_map, List.length_range]; exact Nat.le_refl _)
    rw [cl] at FR fitr
    have el2 := S2 _ _ el
    refine ⟨_, rfl, .inl ⟨rfl, _, SqL.of el2⟩, _, rfl, lf, _, _, rfl, rfl, el2, by rw [List.length_map]; omega, ?_⟩
    have fl : (bss ++ [as]).flatten = bss.flatten ++ as := by simp
    have m1 : lf ∉ rws ++ [lr] := fun z => (List.mem_append.mp z).elim nl fun z => nlr (List.mem_singleton.mp z).symm
    have m2 : lf ∉ (bss ++ [as]).flatten := fun z => by rw [fl] at z; exact (List.mem_append.mp z).elim nf n2
    refine ⟨_, _, _, _, _, rws ++ [lr], bss ++ [as], rfl, (S1.trans S2).upd ff, by rw [upd_same, List.map_append]; rfl, ?_, m1, m2, ?_, fun _ => nor (by omega)⟩
    · rw [tk]
      unfold prodT
      rw [List.map_append]
      exact Tab.but (D := lf) (H := H2) (fun b o hb eo => by rw [upd_ne hb]; exact eo) ((TB.up S2).append (.cons elr FR .nil)) m1 m2
    · rw [tk]
      intro ms hms
      rcases List.mem_append.mp hms with hms | hms
      · exact fit ms hms
      · rw [List.mem_singleton.mp hms]; exact fitr
  rintro j σ H2 hj ⟨y7, y8, y9, as, rfl, S2, elr, FR, n1, n2, fitr, nor⟩
  have S12 := S1.trans S2
  have tkc : (colsOf N2).take (j + 1) = (colsOf N2).take j ++ [colOf N2 j] := by rw [List.take_add_one, cols_take hj]; rfl
  have al : as.length = j := by
    rw [FR.len]; unfold prodR colsOf
    rw [List.length_map, List.length_take, List.length_map, List.length_range]; omega
  refine ⟨_, rfl, r, _, rfl, .inl (SqL.of (S12 _ _ er)), ?_⟩
  rw [List.length_map]
  refine ⟨_, rfl, by omega, by omega, ?_⟩
  have cn := col_len N2 j
  refine comp_each (J := Itr 0 ns.length) ns.length (by omega) (fun i => V.int (ns.getD i 0 * (colOf N2 j).getD i 0)) (fun i _ h _ => h) (fun _ _ => Nat.le_refl _) ?_ ?_
  · rintro k x H' H'' Q' hk S ⟨rfl, rfl⟩ q'
    have S3 := S12.trans S
    have gx := List.getElem?_eq_getElem (l := ns) (i := k) hk
    obtain ⟨a, ha, hat⟩ := refs_atI (as := as2) (i := k) (by omega)
    obtain ⟨row, hrow, erow⟩ := F2.get ha
    have rowl := r2 row (List.mem_of_getElem? hrow)
    have gy := List.getElem?_eq_getElem (l := row) (i := j) (by omega)
    have h1 := Mod.fits gb (f1 ns hm) _ (List.getElem_mem hk)
    have h2 := Mod.fits gb (f2 row (List.mem_of_getElem? hrow)) _ (List.mem_of_getElem? gy)
    rw [col_at hrow, List.getD_eq_getElem?_getD, gx, List.getD_eq_getElem?_getD, gy] at q'
    exact ⟨_, rfl, _, rfl, r, _, _, _, rfl, rfl, SqL.of (S3 _ _ er), atI_get (by rw [List.getElem?_map, gx]; rfl), _, rfl, _, rfl, l2, _, _, _, rfl, rfl, SqL.of (S3 _ _ e2), hat, _, rfl, a, _, _, _, rfl, rfl, SqL.of (S3 _ _ erow), atI_get (by rw [List.getElem?_map, gy]; rfl), _, _, rfl, rfl, ⟨h1, h2⟩, q' _ (Same.refl _)⟩
  intro Dd H3 hD S3 e3'
  rw [dot_range (by rw [cn, nsl])] at e3'
  refine ⟨Dd, _, rfl, SqL.of e3', ?_⟩
  have S13 := S12.trans S3
  have S23 := S2.trans S3
  refine ⟨_, rfl, _, rfl, _, rfl, _, _, _, rfl, kept, spare, dot ns (colOf N2 j), lw, ws, B.up S13, rfl, rfl, S13 _ _ e3, fun t l' H4 S4 et el' => ?_⟩
  have S14 := S13.trans S4
  have S24 := S23.trans S4
  rcases due_cases (kept := kept) (spare := spare) (x := dot ns (colOf N2 j)) (ws := ws) with ⟨z, ez, zn, pd⟩ | ⟨ez, g1, g2, g3⟩
  · rw [ez] at et el'
    refine ⟨_, rfl, t, _, _, _, rfl, rfl, SqT.of et, rfl, rfl, _, rfl, iteTe2 (by rw [decide_eq_false fun h => zn (V.str.inj h)]; rfl) ?_⟩
    refine ⟨_, rfl, t, _, _, _, rfl, rfl, SqT.of et, rfl, by decide, fun p fp => ⟨two, fun t2 ft2 => ?_⟩⟩
    have M1 := Same.new (o := .lst []) fp
    have M2 := Same.new (o := .tup [.str z, .ref p]) ft2
    refine q z [] (pd fun hn hf => hn (hf ns hm _ (List.mem_of_getElem? (cols_take hj)))) t2 p [] [] _ (S14.trans (M1.trans M2)) upd_same (M2 _ _ upd_same) .nil
  rw [ez] at et el'
  refine ⟨_, rfl, t, _, _, _, rfl, rfl, SqT.of et, rfl, rfl, _, rfl, iteFe2 (by rw [decide_eq_true rfl]; rfl) ?_⟩
  have elr4 := (S3.trans S4) _ _ elr
  have elf4 := S24 _ _ el
  have d1 : l' ≠ lr := ne_con elr4 el' (rests_ne gb _)
  have d2 : l' ≠ lf := ne_con elf4 el' (rests_ne gb _)
  refine ⟨_, rfl, .inl ⟨rfl, _, SqL.of elr4⟩, _, rfl, t, _, _, _, rfl, rfl, SqT.of et, rfl, lr, _, _, rfl, rfl, elr4, by rw [List.length_map]; omega, ?_⟩
  have m1 : lr ∉ as ++ [l'] := fun z => (List.mem_append.mp z).elim n1 fun z => d1 (List.mem_singleton.mp z).symm
  have m2 : lf ∉ as ++ [l'] := fun z => (List.mem_append.mp z).elim n2 fun z => d2 (List.mem_singleton.mp z).symm
  refine ⟨_, _, _, as ++ [l'], rfl, S24.upd fr, by rw [upd_same, List.map_append]; rfl, ?_, m1, m2, fun c hc => ?_, fun _ => ⟨g1, g2⟩⟩
  · rw [tkc]
    unfold prodR
    rw [List.map_append]
    exact Figs.but (D := lr) (H := H4) (fun b o hb eo => by rw [upd_ne hb]; exact eo) ((FR.up (S3.trans S4)).append (.cons el' .nil)) m1
  · rw [tkc] at hc
    rcases List.mem_append.mp hc with hc | hc
    · exact fitr c hc
    · rw [List.mem_singleton.mp hc]; exact g3
end
end K16
set_option Elab.async false
set_option linter.all false
set_option maxRecDepth 100000
set_option maxHeartbeats 4000000
namespace K16
open PySem L2 RF
seal L2.PE L2.PA L2.PS L2.PSs L2.PT L2.PG L2.PI L2.PK L2.PO L2.PEx L2.PSx L2.PSxs L2.PH L2.PW L2.PGs L2.PSet L2.OpR L2.CallR L2.SlR L2.IxR
section
variable {P : Program} {w : World} {K : PySem.W.Frag} {mg : Str → Option Value} {base : Heap} {cR cT cB cW cD cP cA cU : Addr}
theorem pi_listK {X : Cx} {tg l : Expr} {tl : TE} (K : PySem.W.Frag) (hl : PE X l tl) (hK : X.K = K := by rfl) : PI X tg l (iList K tl) := hK ▸ pi_list hl
theorem flat_set {β : Type} (g : Int → β) : ∀ {N : List (List Int)} {i j : Nat} {ns : List Int} {n : Int}, N[i]? = some ns → ns[j]? = some n → ∃ k, N.flatten[k]? = some n ∧ ∀ f : β, ((N.map (List.map g)).set i ((ns.map g).set j f)).flatten = (N.flatten.map g).set k f
  | [], _, _, _, _, h, _ => by cases h
  | m :: N, 0, j, ns, n, h, h' => by
    cases h
    have hj := (List.getElem?_eq_some_iff.mp h').1
    refine ⟨j, by rw [List.flatten_cons, List.getElem?_append_left hj]; exact h', fun f => ?_⟩
    rw [List.map_cons, List.set_cons_zero, List.flatten_cons, List.flatten_cons, List.map_append, List.set_append_left _ _ (by rw [List.length_map]; exact hj), List.map_flatten]
  | m :: N, i + 1, j, ns, n, h, h' => by
    obtain ⟨k, hk, hf⟩ := flat_set g (N := N) (i := i) h h'
    refine ⟨m.length + k, by rw [List.flatten_cons, List.getElem?_append_right (by omega), Nat.add_sub_cancel_left]; exact hk, fun f => ?_⟩
    rw [List.map_cons, List.set_cons_succ, List.flatten_cons, hf, List.flatten_cons, List.map_append, List.set_append_right _ _ (by rw [List.length_map]; omega), List.length_map, Nat.add_sub_cancel_left]
theorem Tab.setRow {H : Hp} {r : Addr} {as' : List Addr} {fs' : List (List Int)} (e : H r = some (.lst (as'.map V.ref))) (F : Figs H as' fs') {H0 : Hp} (S : ∀ b o, b ≠ r → H0 b = some o → H b = some o) : ∀ {rs : List Addr} {ass : List (List Addr)} {fss : List (List (List Int))} {i : Nat}, Tab H0 rs ass fss → rs.Nodup → r ∉ ass.flatten → rs[i]? = some r → Tab H rs (ass.set i as') (fss.set i fs')
  | _, _, _, _, .nil, _, _, h => by cases h
  | _, _, _, 0, .cons a b t, nd, nf, h => by
    cases h
    rw [List.flatten_cons] at nf
    exact .cons e F (Tab.but (D := r) S t (List.nodup_cons.mp nd).1 fun z => nf (List.mem_append_right _ z))
  | _, _, _, i + 1, .cons a b t, nd, nf, h => by
    rw [List.flatten_cons] at nf
    have h := (show _ = _ from h)
    refine .cons (S _ _ (fun z => (List.nodup_cons.mp nd).1 (z ▸ List.mem_of_getElem? h)) a) (b.but S fun z => nf (List.mem_append_left _ z)) (Tab.setRow e F S t (List.nodup_cons.mp nd).2 (fun z => nf (List.mem_append_right _ z)) h)
theorem set_self_q {α : Type} {xs : List α} {i : Nat} {x : α} (h : xs[i]? = some x) : xs.set i x = xs := by
  obtain ⟨hi, e⟩ := List.getElem?_eq_some_iff.mp h
  rw [← e]
  exact List.set_getElem_self hi
noncomputable def figT (kept spare : List Int) (N : List (List Int)) : List (List (List Int)) := N.map (List.map (rests (kept ++ spare)))
inductive isp_lfigT (a b c : V) (H : Hp) (Q : VK) (E : XK) : Prop
  | mk (kept spare : List Int) (l : Addr) (as : List Addr) (N : List (List Int)) (nb : Int) (m : Nat) (h0 : Bas H a kept spare) (h1 : b = .ref l) (e : H l = some (.lst (as.map V.ref))) (F : Figs H as N) (h2 : c = .int nb) (h3 : 0 ≤ nb) (s1 : 1 ≤ N.length) (s2 : N.length ≤ 20) (s3 : ∀ r ∈ N, r.length = m) (s4 : 1 ≤ m) (s5 : m ≤ 20) (hf : ∀ r ∈ N, ∀ x ∈ r, Fits kept x)
      (q : ∀ t lm rs ass R z H', Same H H' → H' t = some (.tup [.ref lm, .str z]) → H' lm = some (.lst (rs.map V.ref)) → Tab H' rs ass R → R.map List.length = N.map List.length → RowW kept spare N.flatten R.flatten z → Q (.ref t) H') : isp_lfigT a b c H Q E
noncomputable def sp_lfigT : Sp := Sp3 isp_lfigT
theorem figT_lens (kept spare : List Int) (N : List (List Int)) : (figT kept spare N).map List.length = N.map List.length := by
  unfold figT
  rw [List.map_map]
  exact List.map_congr_left fun r _ => List.length_map _
noncomputable abbrev s__law_figures : Stmt := top 50
theorem sc__law_figures : FnScope ["_law_base", "_law_table_here", "_law_number", "_law_made", "_law_word", "_law_row", "_law_at"] ["_law_base", "_law_table_here", "_law_number"] (defScope s__law_figures) := ⟨rfl, rfl, rfl, by decide +kernel, rfl, by decide +kernel, by decide +kernel⟩
theorem b__law_figures : BindsAll "_law_figures" s__law_figures ["_law_base", "_law_table_here", "_law_number"] := binds3 fun _ _ _ _ _ _ _ _ _ => rfl
theorem ok_lfigT (D : Def K mg "_law_figures" s__law_figures) (T : Txt K mg cR cT cB cW cD cP cA cU) (F__law_figure : FnS P w K mg base "_law_figure" ["_law_base", "_law_number"] 1 sp_rests) (F__law_spoilt : FnS P w K mg base "_law_spoilt" ["_law_base", "_law_figure_here", "_law_number"] 1 sp_spoiltW) :
    FnS P w K mg base "_law_figures" ["_law_base", "_law_table_here", "_law_number"] 2 sp_lfigT := by
  refine D.ok sc__law_figures b__law_figures sp3_len fun f cdv A outer s H vs Q E hr h => ?_
  obtain ⟨_, _, _, rfl, kept, spare, l, as, N, nb, m, B, rfl, el, F, rfl, nb0, s1, s2, s3, s4, s5, hf, q⟩ := h
  obtain ⟨⟨tb, rfl, hb⟩, gb⟩ := id B
  refine ⟨_, (pss_cons (ps_setC (i := 3) (lv := 1) (caps := [0]) (N' := ["_law_row", "_law_base"]) (xe := fun _ _ _ _ _ _ => False) (fun _ _ _ _ _ _ _ _ _ _ _ _ _ z => z.elim) sc__law_figures.nd rfl (Or.inl rfl) rfl (CompOk.caps (sc := defScope s__law_figures) rfl (by decide +kernel) (by decide +kernel) (by decide +kernel) rfl rfl (compcap1 rfl rfl rfl)) (keep_name (by decide)) (pi_list (pv 1)) (fun _ _ _ _ => pg_name (i := 0) (show (["_law_row", "_law_base"] : List Str).Nodup by decide +kernel) rfl (Or.inl rfl)) (fun _ _ _ _ => (pe_comp (lv := 1) (caps := [1]) (N' := ["_law_one", "_law_base"]) rfl (CompOk.rf rfl (by kernel_rfl) rfl (compcap1 rfl rfl rfl)) (keep_name (by decide)) (pi_listK K (pv 0)) (fun _ _ _ _ => pg_name (i := 0) (show (["_law_one", "_law_base"] : List Str).Nodup by decide +kernel) rfl (Or.inl rfl)) (fun _ _ _ _ => (cFn F__law_figure hr passes0 (ac (pv 1) (ac (pv 0) pa_nil)))))))
      (pss_cons (ps_set (i := 4) sc__law_figures.nd rfl (Or.inl rfl) pe_str)
      (pss_cons (ps_if (pt_cmpR op_eq (pe_op op_mod (pv 2) pe_int) pe_int (nomark _))
        (pss_cons (ps_set (i := 5) sc__law_figures.nd rfl (Or.inl rfl) (pe_ix ix0L (pv 3) (pe_op op_mod (pe_op op_fdiv (pv 2) pe_int) (cBi call0len (by rfl) T.len PyProof.Rows.Boot.«len» (ac (pv 3) pa_nil))) (fun _ _ => rfl)))
        (pss_cons (ps_set (i := 6) sc__law_figures.nd rfl (Or.inl rfl) (pe_op op_mod (pe_op op_fdiv (pv 2) pe_int) (cBi call0len (by rfl) T.len PyProof.Rows.Boot.«len» (ac (pv 5) pa_nil))))
        (pss_one (ps_asg (cFn F__law_spoilt hr passes0 (ac (pv 0) (ac (pe_ix ix0L (pv 5) (pv 6) (fun _ _ => rfl)) (ac (pe_op op_fdiv (pv 2) pe_int) pa_nil)))) (pg_tup (n := 2) rfl (pgs_cons (pg_sub (pv 5) (pv 6) set_list) (pgs_cons (pg_name (i := 4) sc__law_figures.nd rfl (Or.inl rfl)) pgs_nil)))))))
        pss_nil)
      (pss_one (ps_ret (pe_tup (ac (pv 3) (ac (pv 4) pa_nil)))))))), ?_⟩
  try (set_option simprocs false in dsimp only [cxOf])
  have two : ∀ {a : V} {b : V}, ([a, b] : List V).length ≤ sizeLine := fun {_ _} => by show 2 ≤ sizeLine; decide
  have s300 : (300 : Nat) ≤ sizeLine := by decide
  have L := F.len
  refine ⟨_, rfl, l, rfl, ⟨_, SqL.of el⟩, comp_LJ (K := K) (xs := as.map V.ref) (SqL.of el) (by rw [List.length_map]; omega) (fun D i ys H' => ∃ rs ass, ys = rs.map V.ref ∧ Tab H' rs ass (figT kept spare (N.take i)) ∧ D ∉ rs ∧ D ∉ ass.flatten ∧ rs.Nodup ∧ ∀ a ∈ rs, ∀ o, H a = some o → a ≠ a) (fun D hD => ⟨[], [], rfl, .nil, (fun z => nomatch z), (fun z => nomatch z), List.nodup_nil, fun _ z => nomatch z⟩) ?_ ?_⟩
  · rintro D i x ys H' hx hD S eD ⟨rs, ass, rfl, TB, n1, n2, nd, rnew⟩ Q' q'
    obtain ⟨r, hr', rfl⟩ := refs_at hx
    obtain ⟨ns, hns, er⟩ := F.get hr'
    have hm := List.mem_of_getElem? hns
    have tk : N.take (i + 1) = N.take i ++ [ns] := by rw [List.take_add_one, hns]; rfl
    have nsl := s3 ns hm
    have er' := S _ _ er
    refine ⟨_, rfl, r, rfl, ⟨_, SqL.of er'⟩, comp_LJ (K := K) (xs := ns.map V.int) (SqL.of er') (by rw [List.length_map]; omega) (JF (ns.map (rests (kept ++ spare)))) (fun _ _ => JF.zero) ?_ ?_⟩
    · intro D2 i2 x2 ys2 H2 hx2 hD2 S2 eD2 hj Q2 q2
      obtain ⟨n, hn, rfl⟩ := ints_at hx2
      refine ⟨_, rfl, _, rfl, _, _, rfl, kept, spare, n, B.up (S.trans S2), rfl, fun lf H3 S3 hlf elf => q2 (.ref lf) H3 S3 (hj.next (f := rests (kept ++ spare) n) (by rw [List.getElem?_map, hn]; rfl) S3 elf fun z => ?_)⟩
      rw [z, eD2] at hlf; cases hlf
    · rintro D2 ys2 H2 hD2 S2 eD2 ⟨fa, rfl, FF, nD2⟩
      rw [List.length_map, List.take_of_length_le (by rw [List.length_map]; exact Nat.le_refl _)] at FF
      have nl : D2 ≠ D := fun z => by rw [z, eD] at hD2; cases hD2
      have eD3 := S2 _ _ eD
      have fl : (ass ++ [fa]).flatten = ass.flatten ++ fa := by simp
      have m1 : D ∉ rs ++ [D2] := fun z => (List.mem_append.mp z).elim n1 fun z => nl (List.mem_singleton.mp z).symm
      have m2 : D ∉ (ass ++ [fa]).flatten := fun z => by
        rw [fl] at z
        rcases List.mem_append.mp z with z | z
        · exact n2 z
        · obtain ⟨k, hk⟩ := List.getElem?_of_mem z
          obtain ⟨g, hg, eg⟩ := FF.get hk
          have hg := List.mem_of_getElem? hg
          obtain ⟨n, _, rfl⟩ := List.mem_map.mp hg
          exact ne_con eD3 eg (rests_ne gb n) rfl
      refine q' (.ref D2) H2 S2 ⟨rs ++ [D2], ass ++ [fa], by rw [List.map_append]; rfl, ?_, m1, m2, ?_, fun a ha o ho => ?_⟩
      · rw [tk]
        unfold figT
        rw [List.map_append]
        exact Tab.but (D := D) (H := H2) (fun b o hb eo => by rw [upd_ne hb]; exact eo) ((TB.up S2).append (.cons eD2 FF .nil)) m1 m2
      · rw [List.nodup_append]
        refine ⟨nd, List.nodup_cons.mpr ⟨(fun z => nomatch z), List.nodup_nil⟩, fun x hx y hy z => ?_⟩
        have hy : y = D2 := by simpa using hy
        obtain ⟨k, hk⟩ := List.getElem?_of_mem hx
        obtain ⟨_, _, _, _, eg, _⟩ := TB.get hk
        rw [z, hy, hD2] at eg; cases eg
      · rcases List.mem_append.mp ha with ha | ha
        · exact rnew a ha o ho
        · rw [List.mem_singleton.mp ha] at ho
          have := S _ _ ho
          rw [hD2] at this; cases this
  rintro lm ys H1 hlm S1 em ⟨rs, ass, rfl, TB, n1, n2, nd, rnew⟩
  rw [List.length_map, L, List.take_length] at TB
  have plain : RowW kept spare N.flatten (figT kept spare N).flatten "" := by
    refine ⟨?_, fun n hn => ?_, .inl ⟨rfl, ?_⟩⟩
    · unfold figT; rw [← List.map_flatten, List.length_map]
    · obtain ⟨r, hr', hn⟩ := List.mem_flatten.mp hn
      exact hf r hr' n hn
    · unfold figT; rw [← List.map_flatten]
  refine ⟨_, rfl, _, _, rfl, rfl, (by show (0 : Int) < 5; decide), rfl, _, rfl, ite2 (fun _ => ?_) (fun _ => ?_)⟩
  rotate_left
  · refine ⟨_, rfl, _, rfl, two, fun t ft => ?_⟩
    have M := Same.new (o := .tup [.ref lm, .str ""]) ft
    exact q t lm rs ass _ "" _ (S1.trans M) upd_same (M _ _ em) (TB.up M) (figT_lens ..) plain
  have rl : rs.length = N.length := by rw [TB.len]; unfold figT; rw [List.length_map]
  have dp : (0 : Int) < ((rs.map V.ref).length : Int) := by rw [List.length_map]; omega
  have i0 := md0 (nb / 5) dp
  have i1 := md1 (nb / 5) dp
  generalize hI : nb / 5 % ((rs.map V.ref).length : Int) = I at i0 i1
  have hIl : I.toNat < rs.length := by rw [List.length_map] at i1; omega
  have hz := List.getElem?_eq_getElem (l := rs) hIl
  generalize rs[I.toNat] = r at hz
  have hat : atI (rs.map V.ref) I = some (.ref r) := by
    have e : I = (I.toNat : Int) := by omega
    rw [e]
    exact atI_nat (j := I.toNat) (xs := rs.map V.ref) (by rw [List.getElem?_map, hz]; rfl)
  obtain ⟨fa, fs, hfa, hfs, er, FF⟩ := TB.get hz
  have hns := List.getElem?_eq_getElem (l := N) (i := I.toNat) (by omega)
  generalize N[I.toNat] = ns at hns
  have hfs' : fs = ns.map (rests (kept ++ spare)) := by
    unfold figT at hfs
    rw [List.getElem?_map, hns] at hfs
    exact (Option.some.inj hfs).symm
  have hm := List.mem_of_getElem? hns
  have nsl := s3 ns hm
  have fal : fa.length = m := by rw [FF.len, hfs', List.length_map, nsl]
  refine ⟨_, rfl, _, rfl, _, _, rfl, rfl, ⟨by decide, by decide⟩, _, rfl, lm, _, rfl, .inl (SqL.of em), _, _, rfl, rfl, dp, lm, _, _, _, rfl, rfl, SqL.of em, hI ▸ hat, ?_⟩
  have dp2 : (0 : Int) < ((fa.map V.ref).length : Int) := by rw [List.length_map]; omega
  have j0 := md0 (nb / 40) dp2
  have j1 := md1 (nb / 40) dp2
  refine ⟨_, rfl, _, _, rfl, rfl, ⟨by decide, by decide⟩, _, rfl, r, _, rfl, .inl (SqL.of er), _, _, rfl, rfl, dp2, ?_⟩
  generalize nb / 40 % ((fa.map V.ref).length : Int) = J at *
  have hJl : J.toNat < fa.length := by rw [List.length_map] at j1; omega
  have hza := List.getElem?_eq_getElem (l := fa) hJl
  generalize fa[J.toNat] = a at hza
  have hat2 : atI (fa.map V.ref) J = some (.ref a) := by
    have e : J = (J.toNat : Int) := by omega
    rw [e]
    exact atI_nat (j := J.toNat) (xs := fa.map V.ref) (by rw [List.getElem?_map, hza]; rfl)
  obtain ⟨g, hg, ea⟩ := FF.get hza
  have hn := List.getElem?_eq_getElem (l := ns) (i := J.toNat) (by omega)
  generalize ns[J.toNat] = n at hn
  rw [hfs', List.getElem?_map, hn] at hg
  cases hg
  refine ⟨_, rfl, _, rfl, _, rfl, r, _, _, _, rfl, rfl, SqL.of er, hat2, _, rfl, _, _, rfl, rfl, ⟨by decide, by decide⟩, _, _, _, rfl, kept, spare, a, n, nb / 320, B.up S1, rfl, rfl, ea, hf ns hm n (List.mem_of_getElem? hn), Int.ediv_nonneg nb0 (by decide), fun t l' f2 wd H3 S3 et el' c20 FW => ?_⟩
  have er3 := S3 _ _ er
  have em3 := S3 _ _ em
  refine ⟨t, _, rfl, SqT.of et, rfl, _, _, rfl, _, rfl, _, rfl, r, _, _, _, rfl, rfl, er3, ixN_of j0 j1, _, _, rfl, rfl, ?_⟩
  rw [map_set_refs]
  have nrl : r ≠ lm := fun z => n1 (z ▸ List.mem_of_getElem? hz)
  have figc : ∀ x ∈ ass.flatten, ∃ n, H1 x = some (.lst ((rests (kept ++ spare) n).map V.int)) := fun x hx => by
    obtain ⟨k, hk⟩ := List.getElem?_of_mem hx
    obtain ⟨g, hg, eg⟩ := TB.flat.get hk
    have hg := List.mem_of_getElem? hg
    unfold figT at hg
    rw [← List.map_flatten] at hg
    obtain ⟨n', _, rfl⟩ := List.mem_map.mp hg
    exact ⟨n', eg⟩
  have nrf : r ∉ ass.flatten := fun z => by
    obtain ⟨n', eg⟩ := figc r z
    exact ne_con er eg (rests_ne gb n') rfl
  have hll : l' ≠ r := fun z => by
    rw [z, er3] at el'
    have e9 : fa.map V.ref = f2.map V.int := by injection (Option.some.inj el')
    have h9 := congrArg (fun z : List V => z[J.toNat]?) e9
    simp only [List.getElem?_map, hza, Option.map_some] at h9
    cases h8 : f2[J.toNat]? with
    | none => rw [h8] at h9; cases h9
    | some d => rw [h8] at h9; cases h9
  have hr0 : H r = none := by
    cases hh : H r with
    | none => rfl
    | some o => exact absurd rfl (rnew r (List.mem_of_getElem? hz) o hh)
  have S4 : Same H (upd H3 r (.lst ((fa.set J.toNat l').map V.ref))) := (S1.trans S3).upd hr0
  have up : ∀ b o, b ≠ r → H3 b = some o → upd H3 r (.lst ((fa.set J.toNat l').map V.ref)) b = some o := fun b o hb eo => by rw [upd_ne hb]; exact eo
  have nfa : r ∉ fa := fun z => nrf (List.mem_flatten.mpr ⟨fa, List.mem_of_getElem? hfa, z⟩)
  have F4 : Figs (upd H3 r (.lst ((fa.set J.toNat l').map V.ref))) (fa.set J.toNat l') (fs.set J.toNat f2) := Figs.set (up _ _ hll el') J.toNat ((FF.up S3).but up nfa)
  have T4 := Tab.setRow (H := upd H3 r (.lst ((fa.set J.toNat l').map V.ref))) upd_same F4 up (TB.up S3) nd nrf hz
  have em4 := up _ _ (Ne.symm nrl) em3
  obtain ⟨kk, hk1, hk2⟩ := flat_set (rests (kept ++ spare)) hns hn
  refine ⟨_, rfl, _, rfl, two, fun t2 ft2 => ?_⟩
  have M := Same.new (o := .tup [.ref lm, .str wd]) ft2
  refine q t2 lm rs _ _ wd _ (S4.trans M) upd_same (M _ _ em4) (T4.up M) ?_ ?_
  · rw [List.map_set, figT_lens, List.length_set, FF.len.symm, fal]
    have : (N.map List.length)[I.toNat]? = some m := by rw [List.getElem?_map, hns]; exact congrArg some nsl
    exact set_self_q this
  · have e : ((figT kept spare N).set I.toNat (fs.set J.toNat f2)).flatten = (N.flatten.map (rests (kept ++ spare))).set kk f2 := by rw [hfs']; exact hk2 f2
    rw [e]
    exact RowW.spoil gb plain.2.1 hk1 FW
end
end K16
set_option Elab.async false
set_option linter.all false
set_option maxRecDepth 100000
set_option maxHeartbeats 4000000
namespace K16
open PySem L2 RF
seal L2.PE L2.PA L2.PS L2.PSs L2.PT L2.PG L2.PI L2.PK L2.PO L2.PEx L2.PSx L2.PSxs L2.PH L2.PW L2.PGs L2.PSet L2.OpR L2.CallR L2.SlR L2.IxR
section
variable {P : Program} {w : World} {K : PySem.W.Frag} {mg : Str → Option Value} {base : Heap} {cR cT cB cW cD cP cA cU : Addr}
theorem atI_neg {xs : List V} {j : Nat} {x : V} {i : Int} (h : xs[xs.length - j]? = some x) (h1 : 1 ≤ j) (h2 : j ≤ xs.length) (hi : i = -(j : Int)) : atI xs i = some x := by
  unfold atI ixN
  rw [hi, if_neg (by omega)]
  have e : (-(j : Int) + (xs.length : Int)).toNat = xs.length - j := by omega
  first
  | (rw [if_pos (by omega)]; simp only [Option.bind_some, Option.bind]; rw [show (-(j : Int) + (xs.length : Int)).toNat = xs.length - j by omega]; exact h)
  | (simp [e, h]; omega)
theorem flat_at {α : Type} : ∀ {xss : List (List α)} {i j : Nat} {xs : List α} {x : α}, xss[i]? = some xs → xs[j]? = some x → xss.flatten[(xss.take i).flatten.length + j]? = some x
  | [], _, _, _, _, h, _ => by cases h
  | y :: xss, 0, j, xs, x, h, h' => by
    cases h
    have hj := (List.getElem?_eq_some_iff.mp h').1
    show ((y :: xss).flatten)[0 + j]? = _
    rw [Nat.zero_add, List.flatten_cons, List.getElem?_append_left hj]; exact h'
  | y :: xss, i + 1, j, xs, x, h, h' => by
    have ih := flat_at (xss := xss) (i := i) h h'
    show ((y :: xss).flatten)[(y :: xss.take i).flatten.length + j]? = _
    rw [List.flatten_cons, List.flatten_cons, List.length_append, List.getElem?_append_right (by omega), Nat.add_assoc, Nat.add_sub_cancel_left]
    exact ih
theorem kit_li (K : PySem.W.Frag) : PySem.W.kitOne K (.type "list") (.type "int") = some false := by kernel_rfl
noncomputable def AP (H : Hp) (A : List Addr) (G : List (List Int)) (c : Nat) : Prop := ∀ (k : Nat) a g, A[k]? = some a → G[k]? = some g → H a = some (.lst (g.map V.int ++ if k < c then [.int ((k : Int) + 1)] else []))
theorem AP.push {H : Hp} {A : List Addr} {G : List (List Int)} {c : Nat} {a : Addr} {g : List Int} {L : List V} (h : AP H A G c) (nd : A.Nodup) (ha : A[c]? = some a) (hg : G[c]? = some g) (hL : L = g.map V.int ++ [.int ((c : Int) + 1)]) : AP (upd H a (.lst L)) A G (c + 1) := fun k a' g' e1 e2 => by
  by_cases hz : k = c
  · subst hz
    rw [ha] at e1; rw [hg] at e2
    cases e1; cases e2
    rw [upd_same, if_pos (by omega), hL]
  · have ne : a' ≠ a := fun z => hz (by
      rw [z] at e1
      obtain ⟨h1, e1⟩ := List.getElem?_eq_some_iff.mp e1
      obtain ⟨h2, e2⟩ := List.getElem?_eq_some_iff.mp ha
      exact (List.getElem_inj nd).mp (e1.trans e2.symm))
    rw [upd_ne ne, h k a' g' e1 e2]
    by_cases hk : k < c
    · rw [if_pos hk, if_pos (by omega)]
    · rw [if_neg hk, if_neg (by omega)]
inductive isp_apart (a b : V) (H : Hp) (Q : VK) (E : XK) : Prop
  | mk (l : Addr) (rws : List Addr) (bss : List (List Addr)) (fss : List (List (List Int))) (many : Nat) (h0 : a = .ref l) (h1 : b = .int (many : Int)) (e : H l = some (.lst (rws.map V.ref))) (TB : Tab H rws bss fss) (ndR : rws.Nodup) (ndF : bss.flatten.Nodup) (n1 : l ∉ rws) (n2 : l ∉ bss.flatten) (hg : ∀ g ∈ fss.flatten, g.length = many ∧ g ≠ []) (s1 : rws.length ≤ 100) (s2 : ∀ bs ∈ bss, 1 ≤ bs.length ∧ bs.length ≤ 100) (s3 : many ≤ 100)
      (q : ∀ H', (∀ b o, b ∉ rws → b ∉ bss.flatten → H b = some o → H' b = some o) → Q (.bl true) H') : isp_apart a b H Q E
noncomputable def sp_apart : Sp := Sp2 isp_apart
noncomputable abbrev s__law_apart : Stmt := top 52
theorem sc__law_apart : FnScope ["_law_table_here", "_law_many", "_law_marks", "_law_row", "_law_figure_here", "_law_k"] ["_law_table_here", "_law_many"] (defScope s__law_apart) := ⟨rfl, rfl, rfl, by decide +kernel, rfl, by decide +kernel, by decide +kernel⟩
theorem b__law_apart : BindsAll "_law_apart" s__law_apart ["_law_table_here", "_law_many"] := binds2 fun _ _ _ _ _ _ _ _ => rfl
theorem ok_apart (D : Def K mg "_law_apart" s__law_apart) (T : Txt K mg cR cT cB cW cD cP cA cU) : FnS P w K mg base "_law_apart" ["_law_table_here", "_law_many"] 1 sp_apart := by
  refine D.ok sc__law_apart b__law_apart sp2_len fun f cdv A outer s H vs Q E hr h => ?_
  obtain ⟨_, _, rfl, l, rws, bss, fss, many, rfl, rfl, el, TB, ndR, ndF, n1, n2, hg, s1, s2, s3, q⟩ := h
  refine ⟨_, (pss_cons (ps_set (i := 2) sc__law_apart.nd rfl (Or.inl rfl) pe_int)
      (pss_cons (ps_for own_pass rfl (pi_list (pv 0)) (pg_name (i := 3) sc__law_apart.nd rfl (Or.inl rfl))
        (pss_one (ps_for own_pass rfl (pi_list (pv 3)) (pg_name (i := 4) sc__law_apart.nd rfl (Or.inl rfl))
          (pss_cons (ps_set (i := 2) sc__law_apart.nd rfl (Or.inl rfl) (pe_op op_add (pv 2) pe_int))
          (pss_one (ps_expr (pe_bm PySem.F.plainAttrs_list PySem.F.slot_list_append PySem.F.type_list_append mt_append (pv 4) (ac (pv 2) pa_nil))))))))
      (pss_cons (ps_set (i := 2) sc__law_apart.nd rfl (Or.inl rfl) pe_int)
      (pss_cons (ps_for own_pass rfl (pi_list (pv 0)) (pg_name (i := 3) sc__law_apart.nd rfl (Or.inl rfl))
        (pss_one (ps_for own_pass rfl (pi_list (pv 3)) (pg_name (i := 4) sc__law_apart.nd rfl (Or.inl rfl))
          (pss_cons (ps_set (i := 2) sc__law_apart.nd rfl (Or.inl rfl) (pe_op op_add (pv 2) pe_int))
          (pss_one (ps_if (PW.pt (pw_or (pt_cmpR op_ne (cBi call0len (by rfl) T.len PyProof.Rows.Boot.«len» (ac (pv 4) pa_nil)) (pe_op op_add (pv 1) pe_int) (nomark _)) (pw_or1 (pt_cmpR op_ne (pe_ix ix0L (pv 4) (pe_un un_neg pe_int) (fun _ _ => rfl)) (pv 2) (nomark _)))))
            (pss_one (ps_ret pe_bl))
            pss_nil))))))
      (pss_cons (ps_for own_pass rfl (pi_enum rfl T.enumerate (ac (pv 0) pa_nil)) (pg_tup (n := 2) rfl (pgs_cons (pg_name (i := 5) sc__law_apart.nd rfl (Or.inl rfl)) (pgs_cons (pg_name (i := 3) sc__law_apart.nd rfl (Or.inl rfl)) pgs_nil)))
        (pss_one (ps_expr (pe_bm PySem.F.plainAttrs_list PySem.F.slot_list_append PySem.F.type_list_append mt_append (pv 3) (ac (pv 5) pa_nil)))))
      (pss_one (ps_ret (pe_not (cBi (call_any rfl) (by rfl) T.any PyProof.Rows.Boot.«any» (ac (pe_comp (lv := 2) (caps := []) (N' := ["_law_k", "_law_row"]) rfl (CompOk.alone rfl (by decide +kernel) (by decide +kernel) rfl) (keep_two (by decide) (by decide)) (pi_enum rfl T.enumerate (ac (pv 0) pa_nil)) (fun _ _ _ _ => pg_tupK (n := 2) K rfl (pgs_cons (pg_name (i := 0) (show (["_law_k", "_law_row"] : List Str).Nodup by decide +kernel) rfl (Or.inl rfl)) (pgs_cons (pg_name (i := 1) (show (["_law_k", "_law_row"] : List Str).Nodup by decide +kernel) rfl (Or.inl rfl)) pgs_nil))) (fun _ _ _ _ => (pe_or (pe_cmpR op_ne (pe_bmK K PySem.F.plainAttrs_list PySem.F.slot_list_count PySem.F.type_list_count (mt_countR hr.units) (pv 1) (ac (pv 0) pa_nil)) pe_int (nomark _)) (pe_one (cBi (call_isiK K) (by rfl) T.isinstance PyProof.Rows.Boot.«isinstance» (ac (pe_ix ix0L (pv 1) (pe_un un_neg pe_int) (fun _ _ => rfl)) (ac (pe_ty rfl T.int PyProof.Rows.Boot.«int») pa_nil))))))) pa_nil)))))))))), ?_⟩
  try (set_option simprocs false in dsimp only [cxOf])
  have s300 : (300 : Nat) ≤ sizeLine := by decide
  have FL := TB.flat
  have dj : ∀ r ∈ rws, r ∉ bss.flatten := fun r hr' z => by
    obtain ⟨i, hi⟩ := List.getElem?_of_mem hr'
    obtain ⟨_, _, _, _, er, _⟩ := TB.get hi
    obtain ⟨k, hk⟩ := List.getElem?_of_mem z
    obtain ⟨g, hgk, eg⟩ := FL.get hk
    exact ne_con er eg (hg g (List.mem_of_getElem? hgk)).2 rfl
  have row : ∀ {i : Nat} {r : Addr}, rws[i]? = some r → ∃ bs, bss[i]? = some bs ∧ H r = some (.lst (bs.map V.ref)) := fun {i r} hi => by
    obtain ⟨bs, _, hb, _, er, _⟩ := TB.get hi
    exact ⟨bs, hb, er⟩
  refine ⟨_, rfl, l, rfl, ⟨_, SqL.of el⟩, for_list (K := K) (xs := rws.map V.ref) (fun i σ H' => ∃ (y3 y4 : Option V), σ = [some (.ref l), some (.int (many : Int)), some (.int (((bss.take i).flatten.length : Nat) : Int)), y3, y4, none] ∧ (∀ b o, b ∉ bss.flatten → H b = some o → H' b = some o) ∧ AP H' bss.flatten fss.flatten (bss.take i).flatten.length)
    ⟨_, _, rfl, (fun _ _ _ e => e), fun k a g e1 e2 => by
      obtain ⟨g', hg', ea⟩ := FL.get e1
      rw [e2] at hg'; cases hg'
      rw [if_neg (show ¬ k < (bss.take 0).flatten.length by simp), List.append_nil]; exact ea⟩ (fun i σ H' _ ⟨_, _, _, S, _⟩ => SqL.of (S _ _ n2 el)) ?_ ?_⟩
  · rintro i x σ H1 hx ⟨y3, y4, rfl, S1, AP1⟩
    obtain ⟨r, hr', rfl⟩ := refs_at hx
    obtain ⟨bs, hbs, er⟩ := row hr'
    have rm := List.mem_of_getElem? hr'
    have er1 := S1 _ _ (dj r rm) er
    have bl := (s2 bs (List.mem_of_getElem? hbs)).2
    have tk : (bss.take (i + 1)).flatten.length = (bss.take i).flatten.length + bs.length := by
      rw [List.take_add_one, hbs, List.flatten_append, List.length_append]; simp
    refine ⟨_, rfl, r, rfl, ⟨_, SqL.of er1⟩, for_list (K := K) (xs := bs.map V.ref) (fun j σ H' => ∃ (y4 : Option V), σ = [some (.ref l), some (.int (many : Int)), some (.int (((bss.take i).flatten.length + j : Nat) : Int)), some (.ref r), y4, none] ∧ (∀ b o, b ∉ bss.flatten → H b = some o → H' b = some o) ∧ AP H' bss.flatten fss.flatten ((bss.take i).flatten.length + j))
      ⟨_, rfl, S1, AP1⟩ (fun j σ H' _ ⟨_, _, S, _⟩ => SqL.of (S _ _ (dj r rm) er)) ?_ ?_⟩
    · rintro j x σ H2 hx ⟨y4, rfl, S2, AP2⟩
      obtain ⟨a, ha, rfl⟩ := refs_at hx
      have hk := flat_at hbs ha
      obtain ⟨g, hgk, _⟩ := FL.get hk
      have ea := AP2 _ a g hk hgk
      rw [if_neg (Nat.lt_irrefl _), List.append_nil] at ea
      have gl := (hg g (List.mem_of_getElem? hgk)).1
      refine ⟨_, rfl, _, _, rfl, rfl, ?_⟩
      refine ⟨_, rfl, .inl ⟨rfl, _, SqL.of ea⟩, _, rfl, a, _, _, rfl, rfl, ea, by rw [List.length_map]; omega, ?_⟩
      have am := List.mem_of_getElem? hk
      refine ⟨_, rfl, fun b o hb eo => by rw [upd_ne (show b ≠ a from fun z => hb (by rw [z]; exact am))]; exact S2 b o hb eo, ?_⟩
      exact AP2.push ndF hk hgk rfl
    · rintro σ H2 ⟨y4, rfl, S2, AP2⟩
      have AP2 : AP H2 bss.flatten fss.flatten ((bss.take i).flatten.length + (bs.map V.ref).length) := AP2
      rw [List.length_map, ← tk] at AP2
      refine ⟨some (.ref r), y4, ?_, S2, AP2⟩
      rw [List.length_map, ← tk]
  rintro σ H1 ⟨y3, y4, rfl, S1, AP1⟩
  have AP1 : AP H1 bss.flatten fss.flatten (bss.take (rws.map V.ref).length).flatten.length := AP1
  rw [List.length_map, TB.len2, List.take_length] at AP1
  have fin1 : ∀ (k : Nat) a g, bss.flatten[k]? = some a → fss.flatten[k]? = some g → H1 a = some (.lst (g.map V.int ++ [.int ((k : Int) + 1)])) := fun k a g e1 e2 => by
    have := AP1 k a g e1 e2
    rw [if_pos (List.getElem?_eq_some_iff.mp e1).1] at this
    exact this
  have el1 := S1 _ _ n2 el
  have row1 : ∀ {i : Nat} {r : Addr}, rws[i]? = some r → ∃ bs, bss[i]? = some bs ∧ H1 r = some (.lst (bs.map V.ref)) := fun {i r} hi => by
    obtain ⟨bs, hb, er⟩ := row hi
    exact ⟨bs, hb, S1 _ _ (dj r (List.mem_of_getElem? hi)) er⟩
  refine ⟨_, rfl, l, rfl, ⟨_, SqL.of el1⟩, for_list (K := K) (xs := rws.map V.ref) (fun i σ H' => H' = H1 ∧ ∃ (y3 y4 : Option V), σ = [some (.ref l), some (.int (many : Int)), some (.int (((bss.take i).flatten.length : Nat) : Int)), y3, y4, none])
    ⟨rfl, _, _, rfl⟩ (fun i σ H' _ hh => hh.1 ▸ SqL.of el1) ?_ ?_⟩
  · rintro i x σ H2 hx ⟨rfl, y3, y4, rfl⟩
    obtain ⟨r, hr', rfl⟩ := refs_at hx
    obtain ⟨bs, hbs, er⟩ := row1 hr'
    have bl := (s2 bs (List.mem_of_getElem? hbs)).2
    have tk : (bss.take (i + 1)).flatten.length = (bss.take i).flatten.length + bs.length := by
      rw [List.take_add_one, hbs, List.flatten_append, List.length_append]; simp
    refine ⟨_, rfl, r, rfl, ⟨_, SqL.of er⟩, for_list (K := K) (xs := bs.map V.ref) (fun j σ H' => H' = H2 ∧ ∃ (y4 : Option V), σ = [some (.ref l), some (.int (many : Int)), some (.int (((bss.take i).flatten.length + j : Nat) : Int)), some (.ref r), y4, none])
      ⟨rfl, _, rfl⟩ (fun j σ H' _ hh => hh.1 ▸ SqL.of er) ?_ ?_⟩
    · rintro j x σ H3 hx ⟨rfl, y4, rfl⟩
      obtain ⟨a, ha, rfl⟩ := refs_at hx
      have hk := flat_at hbs ha
      obtain ⟨g, hgk, _⟩ := FL.get hk
      have ea := fin1 _ a g hk hgk
      have gl := (hg g (List.mem_of_getElem? hgk)).1
      refine ⟨_, rfl, _, _, rfl, rfl, ?_⟩
      refine ⟨_, rfl, a, _, rfl, .inl (SqL.of ea), _, rfl, _, _, rfl, rfl, rfl, _, rfl, iteFe2 (by rw [decide_eq_true (congrArg V.int (by rw [List.length_append, List.length_map, gl]; rfl))]; rfl) ?_⟩
      refine ⟨_, rfl, _, rfl, a, _, _, _, rfl, rfl, SqL.of ea, atI_neg (j := 1) (by rw [List.length_append, List.length_singleton, Nat.add_sub_cancel, List.getElem?_append_right (Nat.le_refl _), Nat.sub_self]; rfl) (Nat.le_refl _) (by rw [List.length_append]; exact Nat.le_add_left _ _) rfl, _, rfl, rfl, _, rfl, iteFe2 (by rw [decide_eq_true rfl]; rfl) ?_⟩
      exact ⟨rfl, _, rfl⟩
    · rintro σ H3 ⟨rfl, y4, rfl⟩
      refine ⟨rfl, some (.ref r), y4, ?_⟩
      rw [List.length_map, ← tk]
  rintro σ H2 ⟨rfl, y3, y4, rfl⟩
  have tp : ∀ {b : Addr} {H' : Hp} {p : Addr} {o o' : HO}, H' p = none → H' b = some o → upd H' p o' b = some o := fun {b H' p o o'} hp hb => by
    rw [upd_ne (show b ≠ p from fun z => by rw [z, hp] at hb; cases hb)]; exact hb
  refine ⟨_, rfl, l, rfl, ⟨_, SqL.of el1⟩, for_enum (K := K) (xs := rws.map V.ref) (fun i σ H' => ∃ (y2 y3 y4 y5 : Option V), σ = [some (.ref l), some (.int (many : Int)), y2, y3, y4, y5] ∧ (∀ b o, b ∉ rws → H2 b = some o → H' b = some o) ∧ ∀ (k : Nat) r bs, rws[k]? = some r → bss[k]? = some bs → H' r = some (.lst (bs.map V.ref ++ if k < i then [.int (k : Int)] else [])))
    ⟨_, _, _, _, rfl, (fun _ _ _ e => e), fun k r bs e1 e2 => by
      obtain ⟨bs', hb', er⟩ := row1 e1
      rw [e2] at hb'; cases hb'
      rw [if_neg (Nat.not_lt_zero _), List.append_nil]; exact er⟩ (fun i σ H' ⟨_, _, _, _, _, S, _⟩ => SqL.of (S _ _ n1 el1)) ?_ ?_⟩
  · rintro i x pp σ H3 hx ⟨y2, y3, y4, y5, rfl, S3, rw3⟩ hp
    obtain ⟨r, hr', rfl⟩ := refs_at hx
    obtain ⟨bs, hbs, _⟩ := row1 hr'
    have er := rw3 i r bs hr' hbs
    rw [if_neg (Nat.lt_irrefl _), List.append_nil] at er
    have bl := (s2 bs (List.mem_of_getElem? hbs)).2
    refine ⟨pp, _, rfl, SqT.of upd_same, rfl, _, _, rfl, _, _, rfl, rfl, ?_⟩
    have er' := tp (o' := .tup [.int (i : Int), .ref r]) hp er
    refine ⟨_, rfl, .inl ⟨rfl, _, SqL.of er'⟩, _, rfl, r, _, _, rfl, rfl, er', by rw [List.length_map]; omega, ?_⟩
    refine ⟨_, _, _, _, rfl, fun b o hb eo => ?_, fun k r' bs' e1 e2 => ?_⟩
    · rw [upd_ne (show b ≠ r from fun z => hb (by rw [z]; exact List.mem_of_getElem? hr'))]
      exact tp hp (S3 b o hb eo)
    · by_cases hk : k = i
      · subst hk
        rw [hr'] at e1; rw [hbs] at e2
        cases e1; cases e2
        rw [upd_same, if_pos (Nat.lt_succ_self _)]
      · have nr : r' ≠ r := fun z => hk (by
          rw [z] at e1
          obtain ⟨h1, e1⟩ := List.getElem?_eq_some_iff.mp e1
          obtain ⟨h2, e2⟩ := List.getElem?_eq_some_iff.mp hr'
          exact (List.getElem_inj ndR).mp (e1.trans e2.symm))
        rw [upd_ne nr, tp hp (rw3 k r' bs' e1 e2)]
        by_cases hl : k < i
        · rw [if_pos hl, if_pos (by omega)]
        · rw [if_neg hl, if_neg (by omega)]
  rintro σ H3 ⟨y2, y3, y4, y5, rfl, S3, rw3⟩
  have rw3 : ∀ (k : Nat) r bs, rws[k]? = some r → bss[k]? = some bs → H3 r = some (.lst (bs.map V.ref ++ if k < (rws.map V.ref).length then [.int (k : Int)] else [])) := rw3
  have el3 := S3 _ _ n1 el1
  have figL : ∀ a ∈ bss.flatten, ∃ xs, H3 a = some (.lst xs) := fun a ha => by
    obtain ⟨k, hk⟩ := List.getElem?_of_mem ha
    obtain ⟨g, hgk, _⟩ := FL.get hk
    exact ⟨_, S3 _ _ (fun z => dj a z ha) (fin1 k a g hk hgk)⟩
  refine ⟨_, rfl, l, rfl, ⟨_, SqL.of el3⟩, comp_each (J := Ite K l) rws.length (by omega) (fun _ => V.bl false) (fun i H' hi S => ⟨_, _, SqL.of (S _ _ el3), List.getElem?_eq_getElem (by rw [List.length_map]; exact hi)⟩) (fun H' S => ⟨_, SqL.of (S _ _ el3), by rw [List.length_map]; exact Nat.le_refl _⟩) ?_ ?_⟩
  · rintro i x H' H'' Q' hi S ⟨p, u, rfl, hp, rfl, hu⟩ q'
    have hu := hu _ (SqL.of (S _ _ el3))
    obtain ⟨r, hr', rfl⟩ := refs_at hu
    obtain ⟨bs, hbs, _⟩ := row1 hr'
    have er := rw3 i r bs hr' hbs
    rw [if_pos (by rw [List.length_map]; exact hi)] at er
    have NP := Same.new (o := .tup [.int (i : Int), .ref r]) hp
    have SS := S.trans NP
    have er' := SS _ _ er
    have b1 := (s2 bs (List.mem_of_getElem? hbs)).1
    have mem : ∀ a ∈ bs, a ∈ bss.flatten := fun a ha => List.mem_flatten.mpr ⟨bs, List.mem_of_getElem? hbs, ha⟩
    have hz := List.getElem?_eq_getElem (l := bs) (i := bs.length - 1) (by omega)
    obtain ⟨xs, ea⟩ := figL _ (mem _ (List.mem_of_getElem? hz))
    refine ⟨p, _, rfl, SqT.of upd_same, rfl, _, _, rfl, _, _, rfl, rfl, ?_⟩
    refine ⟨_, rfl, .inl ⟨rfl, _, SqL.of er'⟩, _, rfl, r, bs, (i : Int), rfl, rfl, er', fun a ha => ?_, rfl, _, rfl, iteF ?_⟩
    · obtain ⟨xs, e⟩ := figL a (mem a ha)
      exact ⟨xs, SS _ _ e⟩
    · refine ⟨_, rfl, _, rfl, r, _, _, _, rfl, rfl, SqL.of er', atI_neg (j := 2) (x := .ref (bs[bs.length - 1]'(by omega))) ?_ (by omega) ?_ rfl, _, _, _, _, rfl, TyOf.lst (SS _ _ ea), kit_li K, q' _ NP⟩
      · rw [List.length_append, List.length_map, List.length_singleton, List.getElem?_append_left (by rw [List.length_map]; omega), List.getElem?_map, show bs.length + 1 - 2 = bs.length - 1 by omega, hz]; rfl
      · rw [List.length_append, List.length_map, List.length_singleton]; omega
  · intro Dd H4 hD S e
    have em : (List.range rws.length).map (fun _ => V.bl false) = ((List.range rws.length).map fun _ => false).map V.bl := by rw [List.map_map]; rfl
    rw [em] at e
    refine ⟨Dd, _, rfl, SqL.of e, _, rfl, ?_⟩
    rw [show ((List.range rws.length).map fun _ => false).any id = false by simp]
    exact q H4 fun b o hb1 hb2 eo => S _ _ (S3 _ _ hb1 (S1 _ _ hb2 eo))
end
end K16
set_option Elab.async false
set_option linter.all false
set_option maxRecDepth 100000
set_option maxHeartbeats 4000000
namespace K16
open PySem L2 RF
seal L2.PE L2.PA L2.PS L2.PSs L2.PT L2.PG L2.PI L2.PK L2.PO L2.PEx L2.PSx L2.PSxs L2.PH L2.PW L2.PGs L2.PSet L2.OpR L2.CallR L2.SlR L2.IxR
section
variable {P : Program} {w : World} {K : PySem.W.Frag} {mg : Str → Option Value} {base : Heap} {cR cT cB cW cD cP cA cU : Addr}
theorem sd_figs {H : Hp} {n : Nat} : ∀ {as as' : List Addr} {fs : List (List Int)}, Figs H as fs → Figs H as' fs → (∀ f ∈ fs, f.length ≤ 100) → ∀ (i : Nat) (x y : V), (as.map V.ref)[i]? = some x → (as'.map V.ref)[i]? = some y → SD H (n + 2) x y := fun {as as' fs} F F' h i x y hx hy => by
  obtain ⟨a, ha, rfl⟩ := refs_at hx
  obtain ⟨a', ha', rfl⟩ := refs_at hy
  obtain ⟨f, hf, ea⟩ := F.get ha
  obtain ⟨f', hf', ea'⟩ := F'.get ha'
  rw [hf] at hf'; cases hf'
  exact .lst ea ea' rfl (by rw [List.length_map]; exact h f (List.mem_of_getElem? hf)) fun i x y hx hy => sd_ints i x y hx hy
theorem sd_tab {H : Hp} {l l' : Addr} {rs rs' : List Addr} {ass ass' : List (List Addr)} {fss : List (List (List Int))} (e : H l = some (.lst (rs.map V.ref))) (t : Tab H rs ass fss) (e' : H l' = some (.lst (rs'.map V.ref))) (t' : Tab H rs' ass' fss) (s1 : fss.length ≤ 100) (s2 : ∀ fs ∈ fss, fs.length ≤ 100) (s3 : ∀ fs ∈ fss, ∀ f ∈ fs, f.length ≤ 100) : SD H 4 (.ref l) (.ref l') := by
  refine .lst e e' (by rw [List.length_map, List.length_map, t.len, t'.len]) (by rw [List.length_map, t.len]; exact s1) fun i x y hx hy => ?_
  obtain ⟨r, hr, rfl⟩ := refs_at hx
  obtain ⟨r', hr', rfl⟩ := refs_at hy
  obtain ⟨as, fs, _, hfs, er, F⟩ := t.get hr
  obtain ⟨as', fs', _, hfs', er', F'⟩ := t'.get hr'
  rw [hfs] at hfs'; cases hfs'
  have hm := List.mem_of_getElem? hfs
  exact .lst er er' (by rw [List.length_map, List.length_map, F.len, F'.len]) (by rw [List.length_map, F.len]; exact s2 fs hm) (sd_figs F F' (s3 fs hm))
theorem cat_both {a b : Addr} {xs ys : List V} {H : Hp} {Q : VK} (ha : H a = some (.tup xs)) (hb : H b = some (.tup ys)) (hn : xs ≠ []) (hz : xs.length + ys.length ≤ sizeLine) (q : ∀ p H', Same H H' → H' p = some (.tup (xs ++ ys)) → Q (.ref p) H') : rCatT [] (.ref a) (.ref b) H Q := .mk a b xs ys rfl rfl (SqT.of ha) (SqT.of hb) hn hz (fun e => q a H (Same.refl H) (by rw [e, List.append_nil]; exact ha)) (fun _ p fp => q p _ (Same.new fp) upd_same)
inductive isp_rightT (a b c d : V) (H : Hp) (Q : VK) (E : XK) : Prop
  | mk (kept spare : List Int) (l1 l2 : Addr) (rs rs' : List Addr) (ass ass' : List (List Addr)) (R1 R2 : List (List (List Int))) (td ld : Addr) (z : Str) (rw' : List Addr) (bs' : List (List Addr)) (fss : List (List (List Int))) (h0 : Bas H a kept spare) (h1 : b = .ref l1) (h2 : c = .ref l2) (e1 : H l1 = some (.lst (rs.map V.ref))) (e2 : H l2 = some (.lst (rs'.map V.ref))) (t1 : Tab H rs ass R1) (t2 : Tab H rs' ass' R2) (s1 : R1.length ≤ 20) (s2 : 1 ≤ R2.length) (s3 : R2.length ≤ 20) (s4 : ∀ r ∈ R1, r.length ≤ 20) (s5 : ∀ r ∈ R2, r.length ≤ 20)
      (h3 : d = .ref td) (e3 : H td = some (.tup [.str z, .ref ld])) (e4 : H ld = some (.lst (rw'.map V.ref))) (t3 : Tab H rw' bs' fss) (hd : ∀ z' fss', DueT kept spare R1 R2 z' fss' → z' = z ∧ fss' = fss) (u1 : fss.length ≤ 100) (u2 : ∀ fs ∈ fss, 1 ≤ fs.length ∧ fs.length ≤ 100) (u3 : ∀ fs ∈ fss, ∀ f ∈ fs, f.length = (kept ++ spare).length)
      (q : ∀ H', Same H H' → Q (.bl true) H') : isp_rightT a b c d H Q E
noncomputable def sp_rightT : Sp := Sp4 isp_rightT
noncomputable abbrev s__law_right : Stmt := top 53
theorem sc__law_right : FnScope ["_law_base", "_law_one", "_law_other", "_law_due_here", "_law_held", "_law_again"] ["_law_base", "_law_one", "_law_other", "_law_due_here"] (defScope s__law_right) := ⟨rfl, rfl, rfl, by decide +kernel, rfl, by decide +kernel, by decide +kernel⟩
theorem b__law_right : BindsAll "_law_right" s__law_right ["_law_base", "_law_one", "_law_other", "_law_due_here"] := binds4 fun _ _ _ _ _ _ _ _ _ _ => rfl
theorem ok_rightT (D : Def K mg "_law_right" s__law_right) (T : Txt K mg cR cT cB cW cD cP cA cU) (F__law_asked : FnS P w K mg base "_law_asked" ["_law_base", "_law_one", "_law_other"] 48 sp_askT) (F__law_same : FnS P w K mg base "_law_same" ["_law_found", "_law_due_here"] 5 (sp_sameN 4)) (F__law_apart : FnS P w K mg base "_law_apart" ["_law_table_here", "_law_many"] 1 sp_apart) : FnS P w K mg base "_law_right" ["_law_base", "_law_one", "_law_other", "_law_due_here"] 49 sp_rightT := by
  refine D.ok sc__law_right b__law_right sp4_len fun f cdv A outer s H vs Q E hr h => ?_
  obtain ⟨_, _, _, _, rfl, kept, spare, l1, l2, rs, rs', ass, ass', R1, R2, td, ld, z, rw', bs', fss, B, rfl, rfl, e1, e2, t1, t2, s1, s2, s3, s4, s5, rfl, e3, e4, t3, hd, u1, u2, u3, q⟩ := h
  obtain ⟨⟨tb, rfl, hb⟩, gb⟩ := id B
  refine ⟨_, (pss_cons (ps_set (i := 4) sc__law_right.nd rfl (Or.inl rfl) (cFn F__law_asked hr passes0 (ac (pv 0) (ac (pv 1) (ac (pv 2) pa_nil)))))
      (pss_cons (ps_if (PW.pt (pw_or (pt_cmpR op_ne (pe_ix ix0T (pv 4) pe_int (fun _ _ => rfl)) (pe_ix ix0T (pv 3) pe_int (fun _ _ => rfl)) (nomark _)) (pw_or1 (pt_not (pt_val (cFn F__law_same hr passes0 (ac (pe_ix ix0T (pv 4) pe_int (fun _ _ => rfl)) (ac (pe_ix ix0T (pv 3) pe_int (fun _ _ => rfl)) pa_nil))))))))
        (pss_one (ps_ret pe_bl))
        pss_nil)
      (pss_cons (ps_if (pt_not (pt_val (cFn F__law_apart hr passes0 (ac (pe_ix ix0T (pv 4) pe_int (fun _ _ => rfl)) (ac (cBi call0len (by rfl) T.len PyProof.Rows.Boot.«len» (ac (pe_op op0catT (pe_ix ix0T (pv 0) pe_int (fun _ _ => rfl)) (pe_ix ix0T (pv 0) pe_int (fun _ _ => rfl))) pa_nil)) pa_nil)))))
        (pss_one (ps_ret pe_bl))
        pss_nil)
      (pss_cons (ps_expr (pe_bm PySem.F.plainAttrs_list PySem.F.slot_list_append PySem.F.type_list_append mt_append (pe_ix ix0T (pv 4) pe_int (fun _ _ => rfl)) (ac pe_int pa_nil)))
      (pss_cons (ps_set (i := 5) sc__law_right.nd rfl (Or.inl rfl) (cFn F__law_asked hr passes0 (ac (pv 0) (ac (pv 1) (ac (pv 2) pa_nil)))))
      (pss_one (ps_ret (pe_and (pe_cmpR op_eq (pe_ix ix0T (pv 5) pe_int (fun _ _ => rfl)) (pe_ix ix0T (pv 3) pe_int (fun _ _ => rfl)) (nomark _)) (pe_one (cFn F__law_same hr passes0 (ac (pe_ix ix0T (pv 5) pe_int (fun _ _ => rfl)) (ac (pe_ix ix0T (pv 3) pe_int (fun _ _ => rfl)) pa_nil)))))))))))), ?_⟩
  try (set_option simprocs false in dsimp only [cxOf])
  have s300 : (300 : Nat) ≤ sizeLine := by decide
  have k6 := gb.k6
  have k4 := gb.s4
  have k1 := gb.k1
  have kl : (kept ++ spare).length ≤ 10 := by rw [List.length_append]; omega
  have v2 : ∀ fs ∈ fss, fs.length ≤ 100 := fun fs h => (u2 fs h).2
  have v3 : ∀ fs ∈ fss, ∀ f ∈ fs, f.length ≤ 100 := fun fs h f hf => by rw [u3 fs h f hf]; omega
  refine ⟨_, rfl, _, rfl, _, rfl, _, _, _, rfl, kept, spare, l1, l2, rs, rs', ass, ass', R1, R2, B, rfl, rfl, e1, e2, t1, t2, s1, s2, s3, s4, s5, fun z' fss' DT t lt rws bss H1 S1 et hlt elt FT => ?_⟩
  obtain ⟨rfl, rfl⟩ := hd z' fss' DT
  refine ⟨_, rfl, t, _, _, _, rfl, rfl, SqT.of et, rfl, _, rfl, td, _, _, _, rfl, rfl, SqT.of (S1 _ _ e3), rfl, rfl, _, rfl, iteFe2 (by rw [decide_eq_true rfl]; rfl) ?_⟩
  refine ⟨_, rfl, t, _, _, _, rfl, rfl, SqT.of et, rfl, _, rfl, td, _, _, _, rfl, rfl, SqT.of (S1 _ _ e3), rfl, _, _, rfl, sd_tab elt FT.tab (S1 _ _ e4) (t3.up S1) u1 v2 v3, fun H2 S2 => ⟨_, rfl, iteF ?_⟩⟩
  have S12 := S1.trans S2
  have FT2 := FT.up S2
  have et2 := S2 _ _ et
  have elt2 := S2 _ _ elt
  have L := FT2.tab.len
  have alen : ∀ bs ∈ bss, 1 ≤ bs.length ∧ bs.length ≤ 100 := fun bs hbs => by
    obtain ⟨i, hi⟩ := List.getElem?_of_mem hbs
    have hi' := (List.getElem?_eq_some_iff.mp hi).1
    have hr' := List.getElem?_eq_getElem (l := rws) (i := i) (by rw [FT2.tab.len2]; exact hi')
    obtain ⟨as, fs, ha, hfs, _, F⟩ := FT2.tab.get hr'
    rw [hi] at ha; cases ha
    rw [F.len]; exact u2 fs (List.mem_of_getElem? hfs)
  have fok : ∀ g ∈ fss'.flatten, g.length = (kept ++ spare).length ∧ g ≠ [] := fun g hg => by
    obtain ⟨fs, hfs, hgf⟩ := List.mem_flatten.mp hg
    have := u3 fs hfs g hgf
    refine ⟨this, fun e => ?_⟩
    rw [e, List.length_append] at this
    simp at this
    omega
  obtain ⟨b1, b2, eb0, eb1, eb2⟩ := hb.ex
  have tl : ∀ b, (∃ xs, H2 b = some (.tup xs)) → b ∉ rws ∧ b ∉ bss.flatten := by
    rintro b ⟨xs, e⟩
    refine ⟨fun h => ?_, fun h => ?_⟩
    · obtain ⟨i, hi⟩ := List.getElem?_of_mem h
      obtain ⟨_, _, _, _, er, _⟩ := FT2.tab.get hi
      rw [e] at er; cases er
    · obtain ⟨i, hi⟩ := List.getElem?_of_mem h
      obtain ⟨_, _, er⟩ := FT2.tab.flat.get hi
      rw [e] at er; cases er
  have kn : kept.map V.int ≠ [] := fun e => by rw [List.map_eq_nil_iff] at e; rw [e] at k1; simp at k1
  refine ⟨_, rfl, t, _, _, _, rfl, rfl, SqT.of et2, rfl, _, rfl, tb, _, _, _, rfl, rfl, SqT.of (S12 _ _ eb0), rfl, _, rfl, tb, _, _, _, rfl, rfl, SqT.of (S12 _ _ eb0), rfl, cat_both (S12 _ _ eb1) (S12 _ _ eb2) kn (by rw [List.length_map, List.length_map]; omega) fun p H3 S3 ep => ?_⟩
  refine ⟨p, _, rfl, .inr (SqT.of ep), ?_⟩
  rw [List.length_append, List.length_map, List.length_map, ← List.length_append]
  refine ⟨_, _, rfl, lt, rws, bss, fss', (kept ++ spare).length, rfl, rfl, S3 _ _ elt2, FT2.tab.up S3, FT2.ndR, FT2.ndF, (fun h => (FT2.newR lt h).2 rfl), (fun h => (FT2.newF lt h).2 rfl), fok, (by omega), alen, (by omega), fun H4 h4 => ⟨_, rfl, iteF ?_⟩⟩
  have S4 : Same H H4 := fun b o e => h4 b o (fun hm => by have := (FT2.newR b hm).1; rw [this] at e; cases e) (fun hm => by have := (FT2.newF b hm).1; rw [this] at e; cases e) (S3 _ _ (S12 _ _ e))
  have nt := tl t ⟨_, et2⟩
  have et4 := h4 _ _ nt.1 nt.2 (S3 _ _ et2)
  have elt4 := h4 _ _ (fun h => (FT2.newR lt h).2 rfl) (fun h => (FT2.newF lt h).2 rfl) (S3 _ _ elt2)
  refine ⟨_, rfl, t, _, _, _, rfl, rfl, SqT.of et4, rfl, .inl ⟨rfl, _, SqL.of elt4⟩, lt, _, _, rfl, rfl, elt4, by rw [List.length_map]; omega, ?_⟩
  have S5 : Same H (upd H4 lt (.lst (rws.map V.ref ++ [.int 7]))) := S4.upd hlt
  generalize upd H4 lt (.lst (rws.map V.ref ++ [.int 7])) = H5 at *
  refine ⟨_, rfl, _, rfl, _, rfl, _, _, _, rfl, kept, spare, l1, l2, rs, rs', ass, ass', R1, R2, B.up S5, rfl, rfl, S5 _ _ e1, S5 _ _ e2, t1.up S5, t2.up S5, s1, s2, s3, s4, s5, fun z2 fss2 DT2 t2' lt2 rws2 bss2 H6 S6 et6 hlt6 elt6 FT6 => ?_⟩
  obtain ⟨rfl, rfl⟩ := hd z2 fss2 DT2
  have S56 := S5.trans S6
  exact ⟨_, rfl, t2', _, _, _, rfl, rfl, SqT.of et6, rfl, _, rfl, td, _, _, _, rfl, rfl, SqT.of (S56 _ _ e3), rfl, rfl, _, rfl, iteTe2 (decide_eq_true rfl) ⟨_, rfl, t2', _, _, _, rfl, rfl, SqT.of et6, rfl, _, rfl, td, _, _, _, rfl, rfl, SqT.of (S56 _ _ e3), rfl, _, _, rfl, sd_tab elt6 FT6.tab (S56 _ _ e4) (t3.up S56) u1 v2 v3, fun H7 S7 => q _ (S56.trans S7)⟩⟩
end
end K16
set_option Elab.async false
set_option linter.all false
namespace K16
open PySem L2 RF
theorem like_of {N1 N2 : List (List Int)} {R1 R2 : List (List (List Int))} (l1 : R1.map List.length = N1.map List.length) (l2 : R2.map List.length = N2.map List.length) (h1 : ∀ r ∈ N1, r.length = N2.length) (h2 : ∀ r ∈ N2, r.length = (N2.headD []).length) : Like R1 R2 := by
  have hl : R2.length = N2.length := by have := congrArg List.length l2; rwa [List.length_map, List.length_map] at this
  have hh : (R2.headD []).length = (N2.headD []).length := by
    cases R2 with
    | nil => cases N2 with
      | nil => rfl
      | cons a b => cases l2
    | cons a b => cases N2 with
      | nil => cases l2
      | cons c d => rw [List.map_cons, List.map_cons] at l2; injection l2 with e _
  have get : ∀ {R : List (List (List Int))} {N : List (List Int)}, R.map List.length = N.map List.length → ∀ r ∈ R, ∃ n ∈ N, r.length = n.length := fun {R N} e r hr => by
    have : r.length ∈ R.map List.length := List.mem_map_of_mem hr
    rw [e] at this
    obtain ⟨n, hn, e⟩ := List.mem_map.mp this
    exact ⟨n, hn, e.symm⟩
  refine ⟨fun r hr => ?_, fun r hr => ?_⟩
  · obtain ⟨n, hn, e⟩ := get l1 r hr
    rw [e, h1 n hn, hl]
  · obtain ⟨n, hn, e⟩ := get l2 r hr
    rw [e, h2 n hn, hh]
theorem unflat {g : Int → List Int} : ∀ {N : List (List Int)} {R : List (List (List Int))}, R.map List.length = N.map List.length → R.flatten = N.flatten.map g → R = N.map (List.map g)
  | [], [], _, _ => rfl
  | [], _ :: _, h, _ => by cases h
  | _ :: _, [], h, _ => by cases h
  | n :: N, r :: R, h, e => by
    rw [List.map_cons, List.map_cons] at h
    injection h with h1 h2
    rw [List.flatten_cons, List.flatten_cons, List.map_append] at e
    obtain ⟨e1, e2⟩ := List.append_inj e (by rw [h1, List.length_map])
    rw [List.map_cons, e1, unflat h2 e2]
theorem RT.valid {kept spare : List Int} (gb : GoodBase kept spare) {N : List (List Int)} {R : List (List (List Int))} (h : RT kept spare N R) : ∀ f ∈ R.flatten, ∃ n, RightF kept spare f n := fun f hf => by
  obtain ⟨fs, hfs, hf⟩ := List.mem_flatten.mp hf
  rw [h.1] at hfs
  obtain ⟨ns, hns, rfl⟩ := List.mem_map.mp hfs
  obtain ⟨n, hn, rfl⟩ := List.mem_map.mp hf
  exact ⟨n, rfl, h.2 ns hns n hn⟩
theorem row_uniq {kept spare : List Int} (gb : GoodBase kept spare) : ∀ {ns ms : List Int}, ns.map (rests (kept ++ spare)) = ms.map (rests (kept ++ spare)) → (∀ n ∈ ns, Fits kept n) → (∀ n ∈ ms, Fits kept n) → ns = ms
  | [], [], _, _, _ => rfl
  | [], _ :: _, h, _, _ => by cases h
  | _ :: _, [], h, _, _ => by cases h
  | n :: ns, m :: ms, h, f, f' => by
    rw [List.map_cons, List.map_cons] at h
    injection h with h1 h2
    have e : n = m := RightF.uniq gb (ns := rests (kept ++ spare) n) ⟨rfl, f n List.mem_cons_self⟩ ⟨h1, f' m List.mem_cons_self⟩
    rw [e, row_uniq gb h2 (fun x hx => f x (List.mem_cons_of_mem _ hx)) fun x hx => f' x (List.mem_cons_of_mem _ hx)]
theorem tab_uniq {kept spare : List Int} (gb : GoodBase kept spare) : ∀ {N M : List (List Int)}, N.map (List.map (rests (kept ++ spare))) = M.map (List.map (rests (kept ++ spare))) → (∀ r ∈ N, ∀ n ∈ r, Fits kept n) → (∀ r ∈ M, ∀ n ∈ r, Fits kept n) → N = M
  | [], [], _, _, _ => rfl
  | [], _ :: _, h, _, _ => by cases h
  | _ :: _, [], h, _, _ => by cases h
  | n :: ns, m :: ms, h, f, f' => by
    rw [List.map_cons, List.map_cons] at h
    injection h with h1 h2
    rw [row_uniq gb h1 (f n List.mem_cons_self) (f' m List.mem_cons_self), tab_uniq gb h2 (fun x hx => f x (List.mem_cons_of_mem _ hx)) fun x hx => f' x (List.mem_cons_of_mem _ hx)]
theorem RT.uniq {kept spare : List Int} (gb : GoodBase kept spare) {N M : List (List Int)} {R : List (List (List Int))} (h : RT kept spare N R) (h' : RT kept spare M R) : N = M := tab_uniq gb (h.1.symm.trans h'.1) h.2 h'.2
theorem due_eq {kept spare : List Int} (gb : GoodBase kept spare) {N1 N2 : List (List Int)} {R1 R2 : List (List (List Int))} {w1 w2 z z' : Str} {fss fss' : List (List (List Int))} (l1 : R1.map List.length = N1.map List.length) (l2 : R2.map List.length = N2.map List.length) (hL : Like R1 R2) (W1 : RowW kept spare N1.flatten R1.flatten w1) (W2 : RowW kept spare N2.flatten R2.flatten w2) (D : DueT kept spare R1 R2 z fss) (P : PDue kept spare N1 N2 [w1, w2] z' fss') : z = z' ∧ fss = fss' := by
  have fl : (R1 ++ R2).flatten = R1.flatten ++ R2.flatten := List.flatten_append
  have val : ∀ {M1 M2 : List (List Int)}, RT kept spare M1 R1 → RT kept spare M2 R2 → ∀ f ∈ (R1 ++ R2).flatten, ∃ n, RightF kept spare f n := fun {M1 M2} r1 r2 f hf => by
    rw [fl] at hf
    rcases List.mem_append.mp hf with hf | hf
    · exact r1.valid gb f hf
    · exact r2.valid gb f hf
  rcases rows_due gb W1 W2 with ⟨hf, bad⟩ | ⟨hf, hw, v, bad⟩ | ⟨hf, hw, g1, g2⟩
  · rw [← fl] at bad
    have ez : z' = "figure" ∧ fss' = [] := by
      cases P with
      | fig => exact ⟨rfl, rfl⟩
      | wrong h => exact absurd hf h
      | great h => exact absurd hf h
      | yes h => exact absurd hf h
    obtain ⟨f, hm, hn⟩ := bad
    cases D with
    | unl h => exact absurd hL h
    | fig => exact ⟨ez.1.symm, ez.2.symm⟩
    | wrong _ v => exact absurd (v f hm) hn
    | great _ M1 M2 r1 r2 => obtain ⟨n, h⟩ := val r1 r2 f hm; exact absurd (h.valid gb) hn
    | yes _ M1 M2 r1 r2 => obtain ⟨n, h⟩ := val r1 r2 f hm; exact absurd (h.valid gb) hn
  · rw [← fl] at v bad
    have ez : z' = "wrong" ∧ fss' = [] := by
      cases P with
      | fig h => exact absurd h hf
      | wrong => exact ⟨rfl, rfl⟩
      | great _ h => exact absurd hw h
      | yes _ h => exact absurd hw h
    obtain ⟨f, hm, hn⟩ := bad
    cases D with
    | unl h => exact absurd hL h
    | fig _ h => obtain ⟨g, hg, hb⟩ := h; exact absurd (v g hg) hb
    | wrong => exact ⟨ez.1.symm, ez.2.symm⟩
    | great _ M1 M2 r1 r2 => obtain ⟨n, h⟩ := val r1 r2 f hm; exact (h.notWrong hn).elim
    | yes _ M1 M2 r1 r2 => obtain ⟨n, h⟩ := val r1 r2 f hm; exact (h.notWrong hn).elim
  · have sub : ∀ {N : List (List Int)}, (∀ n ∈ N.flatten, Fits kept n) → ∀ r ∈ N, ∀ n ∈ r, Fits kept n := fun {N} h r hr n hn => h n (List.mem_flatten.mpr ⟨r, hr, hn⟩)
    have r1 : RT kept spare N1 R1 := ⟨unflat l1 g1, sub W1.2.1⟩
    have r2 : RT kept spare N2 R2 := ⟨unflat l2 g2, sub W2.2.1⟩
    have right := val r1 r2
    cases D with
    | unl h => exact absurd hL h
    | fig _ h => obtain ⟨g, hg, hb⟩ := h; obtain ⟨n, h⟩ := right g hg; exact absurd (h.valid gb) hb
    | wrong _ _ h => obtain ⟨g, hg, hb⟩ := h; obtain ⟨n, h⟩ := right g hg; exact (h.notWrong hb).elim
    | great _ M1 M2 q1 q2 hg =>
      rw [q1.uniq gb r1, q2.uniq gb r2] at hg
      cases P with
      | fig h => exact absurd h hf
      | wrong _ h => exact absurd h hw
      | great => exact ⟨rfl, rfl⟩
      | yes _ _ h => exact absurd h hg
    | yes _ M1 M2 q1 q2 hg =>
      rw [q1.uniq gb r1, q2.uniq gb r2] at hg ⊢
      cases P with
      | fig h => exact absurd h hf
      | wrong _ h => exact absurd h hw
      | great _ _ h => exact absurd hg h
      | yes => exact ⟨rfl, rfl⟩
end K16
set_option Elab.async false
set_option linter.all false
namespace K16
open PySem L2 RF
section
variable {K : PySem.W.Frag}
noncomputable def figD (f : List Int) : PyData := .list (f.map PyData.int)
noncomputable def rowDT (fs : List (List Int)) : PyData := .list (fs.map figD)
noncomputable def tabD (R : List (List (List Int))) : PyData := .list (R.map rowDT)
noncomputable def heldD (R1 R2 : List (List (List Int))) : PyData := .list [tabD R1, tabD R2]
theorem rdFigs {H : Hp} {as : List Addr} {fs : List (List Int)} (F : Figs H as fs) : RdDs K H (as.map V.ref) (fs.map figD) := by
  induction F with
  | nil => exact .nil
  | cons h _ ih => exact .cons (.lst (SqL.of h) (RdDs.ints _)) ih
theorem rdTab {H : Hp} {rs : List Addr} {ass : List (List Addr)} {R : List (List (List Int))} (t : Tab H rs ass R) : RdDs K H (rs.map V.ref) (R.map rowDT) := by
  induction t with
  | nil => exact .nil
  | cons h h' _ ih => exact .cons (.lst (SqL.of h) (rdFigs h')) ih
theorem ints_can : ∀ a : List Int, PyData.canLayAll0 (a.map PyData.int) = true
  | [] => rfl
  | n :: r => by simp [PyData.canLayAll0, PyData.canLay0, ints_can r]
theorem ints_dep : ∀ a : List Int, PyData.depthAll (a.map PyData.int) = 0
  | [] => rfl
  | n :: r => by simp [PyData.depthAll, PyData.depth, ints_dep r]
theorem figs_can : ∀ fs : List (List Int), PyData.canLayAll0 (fs.map figD) = true
  | [] => rfl
  | f :: fs => by
    have a := ints_can f
    have b := figs_can fs
    simp only [List.map_cons, figD, PyData.canLayAll0, PyData.canLay0] at a b ⊢
    rw [a, b]; rfl
theorem figs_dep : ∀ fs : List (List Int), PyData.depthAll (fs.map figD) ≤ 1
  | [] => by simp [PyData.depthAll]
  | f :: fs => by
    have a := ints_dep f
    have b := figs_dep fs
    simp only [List.map_cons, figD, PyData.depthAll, PyData.depth] at a b ⊢
    omega
theorem rows_can : ∀ R : List (List (List Int)), PyData.canLayAll0 (R.map rowDT) = true
  | [] => rfl
  | f :: fs => by
    have a := figs_can f
    have b := rows_can fs
    simp only [List.map_cons, rowDT, PyData.canLayAll0, PyData.canLay0] at a b ⊢
    rw [a, b]; rfl
theorem rows_dep : ∀ R : List (List (List Int)), PyData.depthAll (R.map rowDT) ≤ 2
  | [] => by simp [PyData.depthAll]
  | f :: fs => by
    have a := figs_dep f
    have b := rows_dep fs
    simp only [List.map_cons, rowDT, PyData.depthAll, PyData.depth] at a b ⊢
    omega
theorem tab_shaped (R : List (List (List Int))) : SeqAt.shaped (tabD R) = true := by
  have a := rows_dep R
  have d : PyData.depth (tabD R) ≤ 64 := by
    unfold tabD
    simp only [PyData.depth] at a ⊢
    omega
  unfold SeqAt.shaped
  rw [decide_eq_true d]
  unfold tabD
  simp only [PyData.canLay0]
  rw [rows_can]; rfl
theorem held_can (R1 R2 : List (List (List Int))) : (heldD R1 R2).canLay0 = true := by
  unfold heldD tabD
  simp only [PyData.canLay0, PyData.canLayAll0]
  rw [rows_can, rows_can]; rfl
theorem held_shaped (R1 R2 : List (List (List Int))) : SeqAt.shaped (heldD R1 R2) = true := by
  have a := rows_dep R1
  have b := rows_dep R2
  have d : PyData.depth (heldD R1 R2) ≤ 64 := by
    unfold heldD tabD
    simp only [PyData.depth, PyData.depthAll] at a b ⊢
    omega
  unfold SeqAt.shaped
  rw [decide_eq_true d, held_can]; rfl
theorem held_eqv (R1 R2 : List (List (List Int))) : PyData.eqv (heldD R1 R2) (heldD R1 R2) = true := SeqAt.eqv_refl _ (held_can R1 R2)
theorem tab_eqv (R : List (List (List Int))) : PyData.eqv (tabD R) (tabD R) = true := SeqAt.eqv_refl _ (SeqAt.canLay_of_shaped (tab_shaped R))
theorem tab_nil (R : List (List (List Int))) : PyData.eqv (tabD R) (.list []) = decide (R = []) := by
  cases R with
  | nil => rfl
  | cons x xs => rw [decide_eq_false (by intro z; cases z)]; rfl
end
end K16
set_option Elab.async false
set_option linter.all false
set_option maxRecDepth 100000
set_option maxHeartbeats 4000000
namespace K16
open PySem L2 RF
section
theorem cut_lastR {rs : List Addr} (h : 1 ≤ rs.length) : cutV (rs.map V.ref) none (some (-1)) = (rs.take (rs.length - 1)).map V.ref := by
  unfold cutV
  rw [HT.sIx_none, List.length_map]
  have e : HT.sIx rs.length rs.length (some (-1)) = rs.length - 1 := by
    show (if (-1 : Int) < 0 then (-1 + (rs.length : Int)).toNat else min (-1 : Int).toNat rs.length) = _
    rw [if_pos (by decide)]; omega
  rw [e, List.drop_zero, Nat.sub_zero, List.map_take]
theorem Tab.take {H : Hp} {rs : List Addr} {ass : List (List Addr)} {R : List (List (List Int))} (t : Tab H rs ass R) : ∀ n, Tab H (rs.take n) (ass.take n) (R.take n) := by
  induction t with
  | nil => intro n; rw [List.take_nil, List.take_nil, List.take_nil]; exact .nil
  | cons h h' _ ih =>
    intro n
    cases n with
    | zero => exact .nil
    | succ n => exact .cons h h' (ih n)
theorem unl_only {kept spare : List Int} {R1 R2 : List (List (List Int))} (h : ¬ Like R1 R2) : ∀ z' fss', DueT kept spare R1 R2 z' fss' → z' = "unlike" ∧ fss' = [] := fun z' fss' D => by
  cases D with
  | unl _ => exact ⟨rfl, rfl⟩
  | fig hL => exact absurd hL h
  | wrong hL => exact absurd hL h
  | great hL => exact absurd hL h
  | yes hL => exact absurd hL h
theorem lens_all {N : List (List Int)} {R : List (List (List Int))} {m : Nat} (h : R.map List.length = N.map List.length) (hN : ∀ r ∈ N, r.length = m) : ∀ r ∈ R, r.length = m := fun r hr => by
  have : r.length ∈ R.map List.length := List.mem_map_of_mem hr
  rw [h] at this
  obtain ⟨n, hn, e⟩ := List.mem_map.mp this
  rw [← e]; exact hN n hn
theorem lens_len {N : List (List Int)} {R : List (List (List Int))} (h : R.map List.length = N.map List.length) : R.length = N.length := by
  have := congrArg List.length h; rwa [List.length_map, List.length_map] at this
theorem unlike_len {R1 R2 : List (List (List Int))} {m : Nat} (h0 : 1 ≤ R1.length) (h : ∀ r ∈ R1, r.length = m) (h2 : R2.length ≠ m) : ¬ Like R1 R2 := fun hL => by
  have hz := List.getElem?_eq_getElem (l := R1) (i := 0) h0
  have hm := List.mem_of_getElem? hz
  exact h2 ((hL.1 _ hm).symm.trans (h _ hm))
theorem PDue.sizes {kept spare : List Int} {N1 N2 : List (List Int)} {ws : List Str} {z : Str} {fss : List (List (List Int))} (h : PDue kept spare N1 N2 ws z fss) (h1 : N1.length ≤ 20) (h2 : 1 ≤ (N2.headD []).length) (h3 : (N2.headD []).length ≤ 20) : fss.length ≤ 100 ∧ (∀ fs ∈ fss, 1 ≤ fs.length ∧ fs.length ≤ 100) ∧ ∀ fs ∈ fss, ∀ f ∈ fs, f.length = (kept ++ spare).length := by
  have nil : ([] : List (List (List Int))).length ≤ 100 ∧ (∀ fs ∈ ([] : List (List (List Int))), 1 ≤ fs.length ∧ fs.length ≤ 100) ∧ ∀ fs ∈ ([] : List (List (List Int))), ∀ f ∈ fs, f.length = (kept ++ spare).length := ⟨by decide, (fun _ z => nomatch z), (fun _ z => nomatch z)⟩
  cases h with
  | fig => exact nil
  | wrong => exact nil
  | great => exact nil
  | yes =>
    refine ⟨by unfold prodT; rw [List.length_map]; omega, fun fs hfs => ?_, fun fs hfs f hf => ?_⟩
    · unfold prodT at hfs
      obtain ⟨ns, _, rfl⟩ := List.mem_map.mp hfs
      unfold prodR colsOf
      rw [List.length_map, List.length_map, List.length_range]
      omega
    · unfold prodT at hfs
      obtain ⟨ns, _, rfl⟩ := List.mem_map.mp hfs
      unfold prodR at hf
      obtain ⟨c, _, rfl⟩ := List.mem_map.mp hf
      unfold rests
      rw [List.length_map]
theorem PDue.more {kept spare : List Int} {N1 N2 : List (List Int)} {z : Str} {fss : List (List (List Int))} (h : PDue kept spare N1 N2 [] z fss) : PDue kept spare N1 N2 ["", ""] z fss := by
  have a : ("figure" : Str) ∉ ([("" : Str), ""] : List Str) := by decide
  have b : ("wrong" : Str) ∉ ([("" : Str), ""] : List Str) := by decide
  cases h with
  | fig h => exact nomatch h
  | wrong _ h => exact nomatch h
  | great _ _ h => exact .great a b h
  | yes _ _ h => exact .yes a b h
inductive Rdy (kept spare : List Int) (R1 : List (List (List Int))) (H : Hp) (lr td : Addr) : Prop
  | mk (rs : List Addr) (ass : List (List Addr)) (R : List (List (List Int))) (ld : Addr) (z : Str) (rw' : List Addr) (bs' : List (List Addr)) (fss : List (List (List Int))) (e2 : H lr = some (.lst (rs.map V.ref))) (t2 : Tab H rs ass R) (s2 : 1 ≤ R.length) (s3 : R.length ≤ 20) (s5 : ∀ r ∈ R, r.length ≤ 20)
      (e3 : H td = some (.tup [.str z, .ref ld])) (e4 : H ld = some (.lst (rw'.map V.ref))) (t3 : Tab H rw' bs' fss) (hd : ∀ z' fss', DueT kept spare R1 R z' fss' → z' = z ∧ fss' = fss) (u1 : fss.length ≤ 100) (u2 : ∀ fs ∈ fss, 1 ≤ fs.length ∧ fs.length ≤ 100) (u3 : ∀ fs ∈ fss, ∀ f ∈ fs, f.length = (kept ++ spare).length) : Rdy kept spare R1 H lr td
theorem Figs.rep {H : Hp} {a : Addr} {f : List Int} (h : H a = some (.lst (f.map V.int))) : ∀ n, Figs H (List.replicate n a) (List.replicate n f)
  | 0 => .nil
  | n + 1 => .cons h (Figs.rep h n)
theorem rep_ref (a : Addr) : ∀ n, (List.replicate n [V.ref a]).flatten = (List.replicate n a).map V.ref
  | 0 => rfl
  | n + 1 => by rw [List.replicate_succ, List.flatten_cons, rep_ref a n, List.replicate_succ]; rfl
noncomputable def JT (R : List (List (List Int))) (D : Addr) (i : Nat) (ys : List V) (H : Hp) : Prop := ∃ rs ass, ys = rs.map V.ref ∧ Tab H rs ass (R.take i) ∧ D ∉ rs ∧ D ∉ ass.flatten
theorem JT.zero {R : List (List (List Int))} {D : Addr} {H : Hp} : JT R D 0 [] H := ⟨[], [], rfl, by rw [List.take_zero]; exact .nil, (fun z => nomatch z), (fun z => nomatch z)⟩
theorem JT.next {R : List (List (List Int))} {fs : List (List Int)} {fa : List Addr} {D c : Addr} {i : Nat} {ys : List V} {H H3 : Hp} (h : JT R D i ys H) (hf : R[i]? = some fs) (S : Same H H3) (hc : H3 c = some (.lst (fa.map V.ref))) (F : Figs H3 fa fs) (cD : c ≠ D) (n : D ∉ fa) : JT R D (i + 1) (ys ++ [.ref c]) (upd H3 D (.lst (ys ++ [.ref c]))) := by
  obtain ⟨rs, ass, rfl, t, n1, n2⟩ := h
  have fl : (ass ++ [fa]).flatten = ass.flatten ++ fa := by simp
  have m1 : D ∉ rs ++ [c] := fun z => (List.mem_append.mp z).elim n1 fun z => cD (List.mem_singleton.mp z).symm
  have m2 : D ∉ (ass ++ [fa]).flatten := fun z => by
    rw [fl] at z
    exact (List.mem_append.mp z).elim n2 n
  refine ⟨rs ++ [c], ass ++ [fa], by rw [List.map_append]; rfl, ?_, m1, m2⟩
  have tk : R.take (i + 1) = R.take i ++ [fs] := by rw [List.take_add_one, hf]; rfl
  rw [tk]
  exact Tab.but (D := D) (H := H3) (fun b o hb eo => by rw [upd_ne hb]; exact eo) ((t.up S).append (.cons hc F .nil)) m1 m2
noncomputable def JG (fs : List (List Int)) (D0 D : Addr) (i : Nat) (ys : List V) (H : Hp) : Prop := ∃ as : List Addr, ys = as.map V.ref ∧ Figs H as (fs.take i) ∧ D ∉ as ∧ D0 ∉ as
theorem JG.zero {fs : List (List Int)} {D0 D : Addr} {H : Hp} : JG fs D0 D 0 [] H := ⟨[], rfl, by rw [List.take_zero]; exact .nil, (fun z => nomatch z), (fun z => nomatch z)⟩
theorem JG.next {fs : List (List Int)} {f : List Int} {D0 D c : Addr} {i : Nat} {ys : List V} {H H3 : Hp} (h : JG fs D0 D i ys H) (hf : fs[i]? = some f) (S : Same H H3) (hc : H3 c = some (.lst (f.map V.int))) (cD : c ≠ D) (cD0 : c ≠ D0) : JG fs D0 D (i + 1) (ys ++ [.ref c]) (upd H3 D (.lst (ys ++ [.ref c]))) := by
  obtain ⟨as, rfl, F, n, n0⟩ := h
  have m : D ∉ as ++ [c] := fun z => (List.mem_append.mp z).elim n fun z => cD (List.mem_singleton.mp z).symm
  refine ⟨as ++ [c], by rw [List.map_append]; rfl, ?_, m, fun z => (List.mem_append.mp z).elim n0 fun z => cD0 (List.mem_singleton.mp z).symm⟩
  have tk : fs.take (i + 1) = fs.take i ++ [f] := by rw [List.take_add_one, hf]; rfl
  rw [tk]
  exact Figs.but (D := D) (H := H3) (fun b o hb eo => by rw [upd_ne hb]; exact eo) ((F.up S).append (.cons hc .nil)) m
end
end K16
set_option Elab.async false
set_option linter.all false
set_option maxRecDepth 100000
set_option maxHeartbeats 4000000
namespace K16
open PySem L2 RF
seal L2.PE L2.PA L2.PS L2.PSs L2.PT L2.PG L2.PI L2.PK L2.PO L2.PEx L2.PSx L2.PSxs L2.PH L2.PW L2.PGs L2.PSet L2.OpR L2.CallR L2.SlR L2.IxR
section
variable {P : Program} {w : World} {K : PySem.W.Frag} {mg : Str → Option Value} {base : Heap} {cR cT cB cW cD cP cA cU : Addr}
noncomputable abbrev s_law : Stmt := top 54
theorem sc_law : FnScope ["_law_script", "_law_base", "_law_k", "_law_cell", "_law_number", "_law_most", "_law_sizes", "_law_ones", "_law_others", "_law_left", "_law_word", "_law_right_here", "_law_second", "_law_due_here", "_law_held", "_law_row", "_law_twice"] ["_law_script"] (defScope s_law) := ⟨rfl, rfl, rfl, by decide +kernel, rfl, by decide +kernel, by decide +kernel⟩
theorem body_law (T : Txt K mg cR cT cB cW cD cP cA cU) (F__law_any_base : FnS P w K mg base "_law_any_base" ["_law_number"] 3 sp_base_by) (F__law_mixed : FnS P w K mg base "_law_mixed" ["_law_number", "_law_k"] 1 sp_mixed) (F__law_cell_at : FnS P w K mg base "_law_cell_at" ["_law_script", "_law_k"] 1 (sp_cell_at K)) (F__law_table : FnS P w K mg base "_law_table" ["_law_base", "_law_number", "_law_rows", "_law_columns"] 3 sp_ltab) (F__law_figures : FnS P w K mg base "_law_figures" ["_law_base", "_law_table_here", "_law_number"] 2 sp_lfigT) (F__law_figure : FnS P w K mg base "_law_figure" ["_law_base", "_law_number"] 1 sp_rests) (F__law_product_due : FnS P w K mg base "_law_product_due" ["_law_base", "_law_ones", "_law_others", "_law_words"] 4 sp_pdue) (F__law_right : FnS P w K mg base "_law_right" ["_law_base", "_law_one", "_law_other", "_law_due_here"] 49 sp_rightT) :
    Body P w K mg base ["_law_script", "_law_base", "_law_k", "_law_cell", "_law_number", "_law_most", "_law_sizes", "_law_ones", "_law_others", "_law_left", "_law_word", "_law_right_here", "_law_second", "_law_due_here", "_law_held", "_law_row", "_law_twice"] "law" s_law 50 (sp_law K) := by
  intro f cdv A outer s H vs Q E hr h
  obtain ⟨_, rfl, l, ns0, rfl, hq, h63, k⟩ := h
  refine ⟨_, (pss_cons (ps_set (i := 1) sc_law.nd rfl (Or.inl rfl) (cFn F__law_any_base hr passes0 (ac (cFn F__law_mixed hr passes0 (ac (cFn F__law_cell_at hr passes0 (ac (pv 0) (ac pe_int pa_nil))) (ac pe_int pa_nil))) pa_nil)))
      (pss_cons (ps_for own_pass rfl (pi_enum rfl T.enumerate (ac (pe_slice sl_list (pv 0) (po_some pe_int) (po_some pe_int)) pa_nil)) (pg_tup (n := 2) rfl (pgs_cons (pg_name (i := 2) sc_law.nd rfl (Or.inl rfl)) (pgs_cons (pg_name (i := 3) sc_law.nd rfl (Or.inl rfl)) pgs_nil)))
        (pss_cons (ps_set (i := 4) sc_law.nd rfl (Or.inl rfl) (cFn F__law_mixed hr passes0 (ac (pv 3) (ac (pe_op op_add pe_int (pv 2)) pa_nil))))
        (pss_cons (ps_set (i := 5) sc_law.nd rfl (Or.inl rfl) pe_int)
        (pss_cutF (Gr) (ps_if (PW.pt (pw_and (pt_cmpR op_eq (pv 2) pe_int (nomark _)) (pw_and1 (pt_cmpR op_eq (pe_op op_mod (pv 4) pe_int) pe_int (nomark _)))))
          (pss_one (ps_set (i := 5) sc_law.nd rfl (Or.inl rfl) pe_int))
          pss_nil)
        (pss_cons (ps_set (i := 6) sc_law.nd rfl (Or.inl rfl) (pe_lst (ac (pe_op op_add pe_int (pe_op op_mod (pe_op op_fdiv (pv 4) pe_int) (pv 5))) (ac (pe_op op_add pe_int (pe_op op_mod (pe_op op_fdiv (pv 4) pe_int) (pv 5))) (ac (pe_op op_add pe_int (pe_op op_mod (pe_op op_fdiv (pv 4) pe_int) (pv 5))) pa_nil)))))
        (pss_cons (ps_set (i := 7) sc_law.nd rfl (Or.inl rfl) (cFn F__law_table hr passes0 (ac (pv 1) (ac (cFn F__law_mixed hr passes0 (ac (pv 4) (ac pe_int pa_nil))) (ac (pe_ix ix0L (pv 6) pe_int (fun _ _ => rfl)) (ac (pe_ix ix0L (pv 6) pe_int (fun _ _ => rfl)) pa_nil))))))
        (pss_cons (ps_set (i := 8) sc_law.nd rfl (Or.inl rfl) (cFn F__law_table hr passes0 (ac (pv 1) (ac (cFn F__law_mixed hr passes0 (ac (pv 4) (ac pe_int pa_nil))) (ac (pe_ix ix0L (pv 6) pe_int (fun _ _ => rfl)) (ac (pe_ix ix0L (pv 6) pe_int (fun _ _ => rfl)) pa_nil))))))
        (pss_cons (ps_asg (cFn F__law_figures hr passes0 (ac (pv 1) (ac (pv 7) (ac (cFn F__law_mixed hr passes0 (ac (pv 4) (ac pe_int pa_nil))) pa_nil)))) (pg_tup (n := 2) rfl (pgs_cons (pg_name (i := 9) sc_law.nd rfl (Or.inl rfl)) (pgs_cons (pg_name (i := 10) sc_law.nd rfl (Or.inl rfl)) pgs_nil))))
        (pss_cons (ps_asg (cFn F__law_figures hr passes0 (ac (pv 1) (ac (pv 8) (ac (cFn F__law_mixed hr passes0 (ac (pv 4) (ac pe_int pa_nil))) pa_nil)))) (pg_tup (n := 2) rfl (pgs_cons (pg_name (i := 11) sc_law.nd rfl (Or.inl rfl)) (pgs_cons (pg_name (i := 12) sc_law.nd rfl (Or.inl rfl)) pgs_nil))))
        (pss_cons (ps_set (i := 13) sc_law.nd rfl (Or.inl rfl) (pe_tup (ac pe_str (ac (pe_lst pa_nil) pa_nil))))
        (pss_cutF (Gr) (ps_if (pt_cmpR op_eq (pe_op op_mod (pe_op op_fdiv (pv 4) pe_int) pe_int) pe_int (nomark _))
          (pss_cons (ps_set (i := 11) sc_law.nd rfl (Or.inl rfl) (pe_slice sl0L (pv 11) po_none (po_some (pe_un un_neg pe_int))))
          (pss_one (ps_if (pt_cmpR (op_eqDK K hr.units) (pv 11) (pe_lst pa_nil) (nomark _))
            (pss_one (ps_set (i := 11) sc_law.nd rfl (Or.inl rfl) (pe_op op_rep (pe_lst (ac (pe_op op_rep (pe_lst (ac (cFn F__law_figure hr passes0 (ac (pv 1) (ac pe_int pa_nil))) pa_nil)) (pe_ix ix0L (pv 6) pe_int (fun _ _ => rfl))) pa_nil)) pe_int)))
            pss_nil)))
          (pss_one (ps_set (i := 13) sc_law.nd rfl (Or.inl rfl) (cFn F__law_product_due hr passes0 (ac (pv 1) (ac (pv 7) (ac (pv 8) (ac (pe_lst (ac (pv 10) (ac (pv 12) pa_nil))) pa_nil))))))))
        (pss_cons (ps_set (i := 14) sc_law.nd rfl (Or.inl rfl) (pe_lst (ac (pe_comp (lv := 1) (caps := []) (N' := ["_law_row"]) rfl (CompOk.alone rfl (by decide +kernel) (by decide +kernel) rfl) (keep_name (by decide)) (pi_list (pv 9)) (fun _ _ _ _ => pg_name (i := 0) (show (["_law_row"] : List Str).Nodup by decide +kernel) rfl (Or.inl rfl)) (fun _ _ _ _ => (pe_comp (lv := 1) (caps := []) (N' := ["_law_one"]) rfl (CompOk.rf rfl (by kernel_rfl) rfl (fun _ _ z => nomatch z)) (keep_name (by decide)) (pi_listK K (pv 0)) (fun _ _ _ _ => pg_name (i := 0) (show (["_law_one"] : List Str).Nodup by decide +kernel) rfl (Or.inl rfl)) (fun _ _ _ _ => (cTy call0list (by rfl) T.list PyProof.Rows.Boot.«list» (ac (pv 0) pa_nil)))))) (ac (pe_comp (lv := 1) (caps := []) (N' := ["_law_row"]) rfl (CompOk.alone rfl (by decide +kernel) (by decide +kernel) rfl) (keep_name (by decide)) (pi_list (pv 11)) (fun _ _ _ _ => pg_name (i := 0) (show (["_law_row"] : List Str).Nodup by decide +kernel) rfl (Or.inl rfl)) (fun _ _ _ _ => (pe_comp (lv := 1) (caps := []) (N' := ["_law_one"]) rfl (CompOk.rf rfl (by kernel_rfl) rfl (fun _ _ z => nomatch z)) (keep_name (by decide)) (pi_listK K (pv 0)) (fun _ _ _ _ => pg_name (i := 0) (show (["_law_one"] : List Str).Nodup by decide +kernel) rfl (Or.inl rfl)) (fun _ _ _ _ => (cTy call0list (by rfl) T.list PyProof.Rows.Boot.«list» (ac (pv 0) pa_nil)))))) pa_nil))))
        (pss_cons (ps_if (PW.pt (pw_or (pt_not (pt_val (cFn F__law_right hr passes0 (ac (pv 1) (ac (pv 9) (ac (pv 11) (ac (pv 13) pa_nil))))))) (pw_or1 (pt_cmpR (op_neDK K hr.units) (pe_lst (ac (pv 9) (ac (pv 11) pa_nil))) (pv 14) (nomark _)))))
          (pss_one (ps_ret pe_bl))
          pss_nil)
        (pss_cons (ps_set (i := 15) sc_law.nd rfl (Or.inl rfl) (pe_op op_rep (pe_lst (ac (cFn F__law_figure hr passes0 (ac (pv 1) (ac (pe_ix ix0L (pe_ix ix0L (pv 7) pe_int (fun _ _ => rfl)) pe_int (fun _ _ => rfl)) pa_nil))) pa_nil)) pe_int))
        (pss_cons (ps_set (i := 13) sc_law.nd rfl (Or.inl rfl) (cFn F__law_product_due hr passes0 (ac (pv 1) (ac (pe_op op_rep (pe_lst (ac (pe_op op_rep (pe_lst (ac (pe_ix ix0L (pe_ix ix0L (pv 7) pe_int (fun _ _ => rfl)) pe_int (fun _ _ => rfl)) pa_nil)) pe_int) pa_nil)) pe_int) (ac (pe_op op_rep (pe_lst (ac (pe_op op_rep (pe_lst (ac (pe_ix ix0L (pe_ix ix0L (pv 7) pe_int (fun _ _ => rfl)) pe_int (fun _ _ => rfl)) pa_nil)) pe_int) pa_nil)) pe_int) (ac (pe_lst pa_nil) pa_nil))))))
        (pss_cons (ps_set (i := 16) sc_law.nd rfl (Or.inl rfl) (pe_lst (ac (pv 15) (ac (pv 15) pa_nil))))
        (pss_one (ps_if (PW.pt (pw_or (pt_not (pt_val (cFn F__law_right hr passes0 (ac (pv 1) (ac (pv 16) (ac (pv 16) (ac (pv 13) pa_nil))))))) (pw_or1 (pt_cmpR (op_neDK K hr.units) (pv 16) (pe_op op_rep (pe_lst (ac (pe_op op_rep (pe_lst (ac (cFn F__law_figure hr passes0 (ac (pv 1) (ac (pe_ix ix0L (pe_ix ix0L (pv 7) pe_int (fun _ _ => rfl)) pe_int (fun _ _ => rfl)) pa_nil))) pa_nil)) pe_int) pa_nil)) pe_int) (nomark _)))))
          (pss_one (ps_ret pe_bl))
          pss_nil))))))))))))))))))
      (pss_one (ps_ret pe_bl)))), ?_⟩
  try (set_option simprocs false in dsimp only [cxOf])
  have s300 : (300 : Nat) ≤ sizeLine := by decide
  refine ⟨_, rfl, _, _, rfl, l, ns0, 0, rfl, rfl, hq, by decide, fun c0 => ⟨_, _, rfl, c0, 0, rfl, rfl, by decide, by decide, fun n8 _ _ => ⟨_, rfl, n8, rfl, fun kept spare tb H1 gb S1 htb hb => ?_⟩⟩⟩
  have B1 : Bas H1 (.ref tb) kept spare := ⟨⟨tb, rfl, hb⟩, gb⟩
  refine ⟨_, rfl, _, rfl, _, rfl, l, _, rfl, S1.seq hq, fun p1 g1 => ?_⟩
  rw [cut_mid (by decide) (by decide)]
  have N1 := Same.new (o := .lst (((ns0.take (4 : Int).toNat).drop (1 : Int).toNat).map V.int)) g1
  have ec : upd H1 p1 (.lst (((ns0.take (4 : Int).toNat).drop (1 : Int).toNat).map V.int)) p1 = some (.lst (((ns0.take (4 : Int).toNat).drop (1 : Int).toNat).map V.int)) := upd_same
  have lc : ((ns0.take (4 : Int).toNat).drop (1 : Int).toNat).length ≤ 3 := by
    rw [List.length_drop, List.length_take]
    show min 4 _ - 1 ≤ 3
    omega
  generalize (ns0.take (4 : Int).toNat).drop (1 : Int).toNat = cs at *
  have B2 := B1.up N1
  generalize upd H1 p1 (.lst (cs.map V.int)) = H2 at *
  refine ⟨p1, rfl, ⟨_, SqL.of ec⟩, for_enum (K := K) (xs := cs.map V.int) (fun i σ H' => ∃ y2 y3 y4 y5 y6 y7 y8 y9 y10 y11 y12 y13 y14 y15 y16 : Option V, σ = [some (.ref l), some (.ref tb), y2, y3, y4, y5, y6, y7, y8, y9, y10, y11, y12, y13, y14, y15, y16] ∧ Same H2 H') ⟨none, none, none, none, none, none, none, none, none, none, none, none, none, none, none, rfl, Same.refl _⟩ (fun i σ H' ⟨_, _, _, _, _, _, _, _, _, _, _, _, _, _, _, _, S⟩ => SqL.of (S _ _ ec)) ?_ ?_⟩
  rotate_left
  · rintro σ H' ⟨y2, y3, y4, y5, y6, y7, y8, y9, y10, y11, y12, y13, y14, y15, y16, rfl, S⟩
    exact k _
  rintro i x pp σ H3 hx ⟨y2, y3, y4, y5, y6, y7, y8, y9, y10, y11, y12, y13, y14, y15, y16, rfl, S3⟩ hp
  obtain ⟨z, hz, rfl⟩ := ints_at hx
  have hi := (List.getElem?_eq_some_iff.mp hz).1
  have NP := Same.new (o := .tup [.int (i : Int), .int z]) hp
  refine ⟨pp, _, rfl, SqT.of upd_same, rfl, _, _, rfl, _, _, rfl, rfl, ?_⟩
  have S3 := S3.trans NP
  generalize upd H3 pp (.tup [.int (i : Int), .int z]) = H4 at *
  refine ⟨_, rfl, _, rfl, _, _, rfl, rfl, _, _, rfl, z, _, rfl, rfl, by omega, by omega, fun nb nb0 nb1 => ?_⟩
  refine ⟨fun σ H' => H' = H4 ∧ ∃ mo : Int, (mo = 4 ∨ mo = 8) ∧ σ = [some (.ref l), some (.ref tb), some (.int (i : Int)), some (.int z), some (.int nb), some (.int mo), y6, y7, y8, y9, y10, y11, y12, y13, y14, y15, y16], ?_, ?_⟩
  rotate_left
  · exact ⟨_, rfl, rfl, _, rfl, ite2 (fun _ => ⟨_, rfl, _, _, rfl, rfl, (by show (0 : Int) < 8; decide), rfl, _, rfl, ite2 (fun _ => ⟨rfl, 8, .inr rfl, rfl⟩) (fun _ => ⟨rfl, 4, .inl rfl, rfl⟩)⟩) (fun _ => iteF ⟨rfl, 4, .inl rfl, rfl⟩)⟩
  rintro _ H5 ⟨rfl, mo, hmo, rfl⟩
  have m0 : 0 < mo ∧ mo ≤ 8 := by rcases hmo with rfl | rfl <;> decide
  have sz : ∀ x : Int, ∃ a : Nat, 1 + x % mo = (a : Int) ∧ 1 ≤ a ∧ a ≤ 8 := fun x => by
    have h1 := Int.emod_nonneg x (show mo ≠ 0 by omega)
    have h2 := Int.emod_lt_of_pos x m0.1
    exact ⟨(1 + x % mo).toNat, by omega, by omega, by omega⟩
  obtain ⟨na, ea, a1, a8⟩ := sz (nb / 8)
  obtain ⟨nc, ec2, c1, c8⟩ := sz (nb / 64)
  obtain ⟨nd, ed, d1, d8⟩ := sz (nb / 512)
  refine ⟨_, rfl, _, _, rfl, rfl, ⟨by decide, by decide⟩, _, rfl, _, _, rfl, rfl, m0.1, _, _, rfl, rfl, _, rfl, _, _, rfl, rfl, ⟨by decide, by decide⟩, _, rfl, _, _, rfl, rfl, m0.1, _, _, rfl, rfl, _, rfl, _, _, rfl, rfl, ⟨by decide, by decide⟩, _, rfl, _, _, rfl, rfl, m0.1, _, _, rfl, rfl, (by show 3 ≤ sizeLine; decide), fun lz fz => ?_⟩
  rw [ea, ec2, ed]
  have NZ := Same.new (o := .lst [.int (na : Int), .int (nc : Int), .int (nd : Int)]) fz
  have ez : upd H5 lz (.lst [.int (na : Int), .int (nc : Int), .int (nd : Int)]) lz = some (.lst [.int (na : Int), .int (nc : Int), .int (nd : Int)]) := upd_same
  have S5 := S3.trans NZ
  generalize upd H5 lz (.lst [.int (na : Int), .int (nc : Int), .int (nd : Int)]) = H6 at *
  refine ⟨_, rfl, _, rfl, _, _, rfl, nb, 5, rfl, rfl, by decide, by decide, fun x5 x50 _ => ⟨_, rfl, lz, _, _, _, rfl, rfl, SqL.of ez, rfl, _, rfl, lz, _, _, _, rfl, rfl, SqL.of ez, rfl, _, _, _, _, rfl, kept, spare, x5, na, nc, B2.up S5, rfl, rfl, rfl, by omega, by omega, fun l7 as7 N7 H7 S7 e7 F7 len7 f7 => ?_⟩⟩
  have S57 := S5.trans S7
  have ez7 := S7 _ _ ez
  refine ⟨_, rfl, _, rfl, _, _, rfl, nb, 6, rfl, rfl, by decide, by decide, fun x6 x60 _ => ⟨_, rfl, lz, _, _, _, rfl, rfl, SqL.of ez7, rfl, _, rfl, lz, _, _, _, rfl, rfl, SqL.of ez7, rfl, _, _, _, _, rfl, kept, spare, x6, nc, nd, B2.up S57, rfl, rfl, rfl, by omega, by omega, fun l8 as8 N8 H8 S8 e8 F8 len8 f8 => ?_⟩⟩
  have S58 := S57.trans S8
  have e78 := S8 _ _ e7
  have F78 := F7.up S8
  refine ⟨_, rfl, _, rfl, _, rfl, _, _, rfl, nb, 7, rfl, rfl, by decide, by decide, fun x7 x70 _ => ⟨_, _, _, rfl, kept, spare, l7, as7, N7, x7, nc, B2.up S58, rfl, e78, F78, rfl, x70, by omega, by omega, fun r hr' => (f7 r hr').1, by omega, by omega, fun r hr' => (f7 r hr').2, fun t9 l9 rs9 ass9 R9 w9 H9 S9 et9 e9 T9 L9 W9 => ?_⟩⟩
  refine ⟨t9, _, rfl, SqT.of et9, rfl, _, _, rfl, _, _, rfl, rfl, ?_⟩
  have S59 := S58.trans S9
  have e89 := S9 _ _ e8
  have F89 := F8.up S9
  refine ⟨_, rfl, _, rfl, _, rfl, _, _, rfl, nb, 8, rfl, rfl, by decide, by decide, fun x8 x80 _ => ⟨_, _, _, rfl, kept, spare, l8, as8, N8, x8, nd, B2.up S59, rfl, e89, F89, rfl, x80, by omega, by omega, fun r hr' => (f8 r hr').1, by omega, by omega, fun r hr' => (f8 r hr').2, fun t10 l10 rs10 ass10 R10 w10 H10 S10 et10 e10 T10 L10 W10 => ?_⟩⟩
  refine ⟨t10, _, rfl, SqT.of et10, rfl, _, _, rfl, _, _, rfl, rfl, ?_⟩
  have S510 := S59.trans S10
  refine ⟨by decide, fun pl fpl => ⟨(by show 2 ≤ sizeLine; decide), fun tdu ftd => ?_⟩⟩
  have SP := (Same.new (o := .lst []) fpl)
  have ST := SP.trans (Same.new (o := .tup [.str "unlike", .ref pl]) ftd)
  have etd : upd (upd H10 pl (.lst [])) tdu (.tup [.str "unlike", .ref pl]) tdu = some (.tup [.str "unlike", .ref pl]) := upd_same
  have epl : upd (upd H10 pl (.lst [])) tdu (.tup [.str "unlike", .ref pl]) pl = some (.lst []) := (Same.new (o := .tup [.str "unlike", .ref pl]) ftd) _ _ upd_same
  have S511 := S510.trans ST
  have e911 := ST _ _ (S10 _ _ e9)
  have T911 := (T9.up S10).up ST
  have e1011 := ST _ _ e10
  have T1011 := T10.up ST
  have e711 := ST _ _ (S10 _ _ (S9 _ _ e78))
  have F711 := ((F78.up S9).up S10).up ST
  have e811 := ST _ _ (S10 _ _ e89)
  have F811 := (F89.up S10).up ST
  have ez11 := ST _ _ (S10 _ _ (S9 _ _ (S8 _ _ ez7)))
  generalize upd (upd H10 pl (.lst [])) tdu (.tup [.str "unlike", .ref pl]) = H11 at *
  have lr9 := lens_all L9 fun r hr' => (f7 r hr').1
  have lr10 := lens_all L10 fun r hr' => (f8 r hr').1
  have ln9 := lens_len L9
  have ln10 := lens_len L10
  refine ⟨fun σ H' => ∃ lr td, Same H11 H' ∧ Rdy kept spare R9 H' lr td ∧ σ = [some (.ref l), some (.ref tb), some (.int (i : Int)), some (.int z), some (.int nb), some (.int mo), some (.ref lz), some (.ref l7), some (.ref l8), some (.ref l9), some (.str w9), some (.ref lr), some (.str w10), some (.ref td), y14, y15, y16], ?_, ?_⟩
  rotate_left
  · refine ⟨_, rfl, _, _, rfl, rfl, ⟨by decide, by decide⟩, _, _, rfl, rfl, (by show (0 : Int) < 6; decide), rfl, _, rfl, ite2 (fun _ => ?_) (fun _ => ?_)⟩
    · have rl10 : rs10.length = nc := by rw [T10.len, ln10, len8]
      refine ⟨_, rfl, _, rfl, _, rfl, l10, _, rfl, SqL.of e1011, fun p fp => ?_⟩
      rw [cut_lastR (by omega)]
      have NS := Same.new (o := .lst ((rs10.take (rs10.length - 1)).map V.ref)) fp
      have ep : upd H11 p (.lst ((rs10.take (rs10.length - 1)).map V.ref)) p = some (.lst ((rs10.take (rs10.length - 1)).map V.ref)) := upd_same
      have TT := (T1011.take (rs10.length - 1)).up NS
      generalize upd H11 p (.lst ((rs10.take (rs10.length - 1)).map V.ref)) = H12 at *
      have lT : (R10.take (rs10.length - 1)).length = nc - 1 := by rw [List.length_take, ln10, len8, rl10]; omega
      refine ⟨_, rfl, by decide, fun pe fe => .mk (tabD (R10.take (rs10.length - 1))) (.list []) (.lst (SqL.of (Same.new fe _ _ ep)) (rdTab (TT.up (Same.new fe)))) (.lst (SqL.of upd_same) .nil) (tab_shaped _) rfl ?_⟩
      rw [tab_nil]
      have NE := NS.trans (Same.new (o := .lst []) fe)
      have ep' := Same.new (o := .lst []) fe _ _ ep
      have TT' := TT.up (Same.new (o := .lst []) fe)
      generalize upd H12 pe (.lst []) = H13 at *
      refine ⟨_, rfl, ite2 (fun h => ?_) (fun h => ?_)⟩
      · have h := of_decide_eq_true h
        rw [h] at lT
        have nc1 : nc = 1 := by have : ([] : List (List (List Int))).length = 0 := rfl; omega
        refine ⟨_, rfl, _, _, rfl, kept, spare, 0, B2.up (S511.trans NE), rfl, fun lf H14 S14 hlf elf => ⟨(by show 1 ≤ sizeLine; decide), fun q1 fq1 => ?_⟩⟩
        have U1 := Same.new (o := .lst [.ref lf]) fq1
        have NE1 := (NE.trans S14).trans U1
        have elf1 := U1 _ _ elf
        refine ⟨_, rfl, lz, _, _, _, rfl, rfl, SqL.of (NE1 _ _ ez11), rfl, q1, _, _, rfl, rfl, upd_same, by omega, by omega, (by show 1 * _ ≤ _; omega), fun q2 fq2 => ?_⟩
        have U2 := Same.new (o := .lst (List.replicate (nd : Int).toNat [V.ref lf]).flatten) fq2
        rw [Int.toNat_natCast, rep_ref] at U2 ⊢
        have eq2 : upd (upd H14 q1 (.lst [.ref lf])) q2 (.lst ((List.replicate nd lf).map V.ref)) q2 = some (.lst ((List.replicate nd lf).map V.ref)) := upd_same
        have NE2 := NE1.trans U2
        have elf2 := U2 _ _ elf1
        generalize upd (upd H14 q1 (.lst [.ref lf])) q2 (.lst ((List.replicate nd lf).map V.ref)) = H15 at *
        refine ⟨(by show 1 ≤ sizeLine; decide), fun q3 fq3 => ⟨q3, 2, _, rfl, rfl, upd_same, by decide, by decide, (by show 2 ≤ sizeLine; decide), fun q4 fq4 => ?_⟩⟩
        have U3 := (Same.new (o := .lst [.ref q2]) fq3).trans (Same.new (o := .lst (List.replicate (2 : Int).toNat [V.ref q2]).flatten) fq4)
        have NE3 := NE2.trans U3
        have FR := Figs.rep (U3 _ _ elf2) nd
        refine ⟨q4, tdu, NE3, .mk [q2, q2] [List.replicate nd lf, List.replicate nd lf] [List.replicate nd (rests (kept ++ spare) 0), List.replicate nd (rests (kept ++ spare) 0)] pl "unlike" [] [] [] upd_same (.cons (U3 _ _ eq2) FR (.cons (U3 _ _ eq2) FR .nil)) (by show 1 ≤ 2; decide) (by show 2 ≤ 20; decide) (fun r hr' => ?_) (NE3 _ _ etd) (NE3 _ _ epl) .nil (unl_only (unlike_len (m := nc) (by omega) lr9 (by show 2 ≠ nc; omega))) (by decide) (fun _ z => nomatch z) (fun _ z => nomatch z), rfl⟩
        have : r = List.replicate nd (rests (kept ++ spare) 0) := by simpa using hr'
        rw [this, List.length_replicate]; omega
      · have h : ¬ R10.take (rs10.length - 1) = [] := fun e => h (decide_eq_true e)
        have h0 : 1 ≤ (R10.take (rs10.length - 1)).length := List.length_pos_iff.mpr h
        exact ⟨p, tdu, NE, .mk _ _ _ pl "unlike" [] [] [] ep' TT' h0 (by omega) (fun r hr' => by rw [lr10 r (List.mem_of_mem_take hr')]; omega) (NE _ _ etd) (NE _ _ epl) .nil (unl_only (unlike_len (m := nc) (by omega) lr9 (by omega))) (by decide) (fun _ z => nomatch z) (fun _ z => nomatch z), rfl⟩
    · have hh : (N8.headD []).length = nd := by
        cases hN : N8 with
        | nil => rw [hN] at len8; simp at len8; omega
        | cons r t => exact (f8 r (by rw [hN]; exact List.mem_cons_self)).1
      have r1 : ∀ r ∈ N7, r.length = N8.length := fun r hr' => by rw [len8]; exact (f7 r hr').1
      have r2 : ∀ r ∈ N8, r.length = (N8.headD []).length := fun r hr' => by rw [hh]; exact (f8 r hr').1
      refine ⟨_, rfl, _, rfl, _, rfl, _, rfl, _, rfl, (by show 2 ≤ sizeLine; decide), fun lw fw => ?_⟩
      have NW := Same.new (o := .lst [.str w9, .str w10]) fw
      refine ⟨_, _, _, _, rfl, kept, spare, l7, l8, lw, as7, as8, N7, N8, [w9, w10], B2.up (S511.trans NW), rfl, NW _ _ e711, F711.up NW, rfl, NW _ _ e811, F811.up NW, rfl, upd_same, (by show 2 ≤ 2; decide), r1, r2, by omega, by omega, by omega, by omega, by omega, by omega, (fun r hr' => (f7 r hr').2), (fun r hr' => (f8 r hr').2), fun zd fss PD td ld rws bss H12 S12 etd' eld TD => ?_⟩
      have NW2 := NW.trans S12
      obtain ⟨u1, u2, u3⟩ := PD.sizes (by omega) (by omega) (by omega)
      exact ⟨l10, td, NW2, .mk rs10 ass10 R10 ld zd rws bss fss (NW2 _ _ e1011) (T1011.up NW2) (by omega) (by omega) (fun r hr' => by rw [lr10 r hr']; omega) etd' eld TD (fun z' fss' D => due_eq gb L9 L10 (like_of L9 L10 r1 r2) W9 W10 D PD) u1 u2 u3, rfl⟩
  rintro _ H12 ⟨lr, td, S12, ⟨rs, ass, R, ld, zd, rw', bs', fss, e2, t2, s2, s3, s5, e3, e4, t3, hd, u1, u2, u3⟩, rfl⟩
  have S512 := S511.trans S12
  have e912 := S12 _ _ e911
  have T912 := T911.up S12
  have s4 : ∀ r ∈ R9, r.length ≤ 20 := fun r hr' => by rw [lr9 r hr']; omega
  refine ⟨_, rfl, l9, rfl, ⟨_, SqL.of e912⟩, comp_LJ (K := K) (SqL.of e912) (by rw [List.length_map, T912.len]; omega) (JT R9) (fun _ _ => JT.zero) ?_ ?_⟩
  · rintro D i0 x ys H' hx hD S eD hj Q' q'
    obtain ⟨r, hr', rfl⟩ := refs_at hx
    obtain ⟨fa, fs, hfa, hfs, er, FF⟩ := T912.get hr'
    have er' := S _ _ er
    have hl : fa.length ≤ 20 := by rw [FF.len]; exact s4 fs (List.mem_of_getElem? hfs)
    refine ⟨_, rfl, r, rfl, ⟨_, SqL.of er'⟩, comp_LJ (K := K) (SqL.of er') (by rw [List.length_map]; omega) (JG fs D) (fun _ _ => JG.zero) ?_ ?_⟩
    · intro D2 i2 x2 ys2 H2' hx2 hD2 S2 eD2 hj2 Q2 q2
      obtain ⟨a, ha, rfl⟩ := refs_at hx2
      obtain ⟨f, hf, ea⟩ := FF.get ha
      refine ⟨_, rfl, .mk a _ rfl (.inl (SqL.of (S2 _ _ (S _ _ ea)))) fun c fc => q2 (.ref c) _ (Same.new fc) (hj2.next hf (Same.new fc) upd_same (fun z => ?_) fun z => ?_)⟩
      · rw [z, eD2] at fc; cases fc
      · rw [z, S2 _ _ eD] at fc; cases fc
    · rintro D2 ys2 H2' hD2 S2 eD2 ⟨fa', rfl, F', n1, n2⟩
      rw [List.length_map, List.take_of_length_le (by rw [FF.len]; exact Nat.le_refl _)] at F'
      refine q' (.ref D2) H2' S2 (hj.next hfs S2 eD2 F' (fun z => ?_) n2)
      rw [z, eD] at hD2; cases hD2
  rintro ca _ H13 fca Sca eca ⟨rsca, assca, rfl, tca, _, _⟩
  rw [List.length_map, List.take_of_length_le (by rw [T912.len]; exact Nat.le_refl _)] at tca
  have e213 := Sca _ _ e2
  have t213 := t2.up Sca
  refine ⟨_, rfl, lr, rfl, ⟨_, SqL.of e213⟩, comp_LJ (K := K) (SqL.of e213) (by rw [List.length_map, t213.len]; omega) (JT R) (fun _ _ => JT.zero) ?_ ?_⟩
  · rintro D i0 x ys H' hx hD S eD hj Q' q'
    obtain ⟨r, hr', rfl⟩ := refs_at hx
    obtain ⟨fa, fs, hfa, hfs, er, FF⟩ := t213.get hr'
    have er' := S _ _ er
    have hl : fa.length ≤ 20 := by rw [FF.len]; exact s5 fs (List.mem_of_getElem? hfs)
    refine ⟨_, rfl, r, rfl, ⟨_, SqL.of er'⟩, comp_LJ (K := K) (SqL.of er') (by rw [List.length_map]; omega) (JG fs D) (fun _ _ => JG.zero) ?_ ?_⟩
    · intro D2 i2 x2 ys2 H2' hx2 hD2 S2 eD2 hj2 Q2 q2
      obtain ⟨a, ha, rfl⟩ := refs_at hx2
      obtain ⟨f, hf, ea⟩ := FF.get ha
      refine ⟨_, rfl, .mk a _ rfl (.inl (SqL.of (S2 _ _ (S _ _ ea)))) fun c fc => q2 (.ref c) _ (Same.new fc) (hj2.next hf (Same.new fc) upd_same (fun z => ?_) fun z => ?_)⟩
      · rw [z, eD2] at fc; cases fc
      · rw [z, S2 _ _ eD] at fc; cases fc
    · rintro D2 ys2 H2' hD2 S2 eD2 ⟨fa', rfl, F', n1, n2⟩
      rw [List.length_map, List.take_of_length_le (by rw [FF.len]; exact Nat.le_refl _)] at F'
      refine q' (.ref D2) H2' S2 (hj.next hfs S2 eD2 F' (fun z => ?_) n2)
      rw [z, eD] at hD2; cases hD2
  rintro cb _ H14 fcb Scb ecb ⟨rscb, asscb, rfl, tcb, _, _⟩
  rw [List.length_map, List.take_of_length_le (by rw [t213.len]; exact Nat.le_refl _)] at tcb
  have eca' := Scb _ _ eca
  have tca' := tca.up Scb
  refine ⟨(by show 2 ≤ sizeLine; decide), fun lh fh => ?_⟩
  have NH := Same.new (o := .lst [.ref ca, .ref cb]) fh
  have eh : upd H14 lh (.lst [.ref ca, .ref cb]) lh = some (.lst [.ref ca, .ref cb]) := upd_same
  have eca2 := NH _ _ eca'
  have tca2 := tca'.up NH
  have ecb2 := NH _ _ ecb
  have tcb2 := tcb.up NH
  have Sh := (Sca.trans Scb).trans NH
  generalize upd H14 lh (.lst [.ref ca, .ref cb]) = H15 at *
  refine ⟨_, rfl, _, rfl, _, rfl, _, rfl, _, _, _, _, rfl, kept, spare, l9, lr, rs9, rs, ass9, ass, R9, R, td, ld, zd, rw', bs', fss, B2.up (S512.trans Sh), rfl, rfl, Sh _ _ e912, Sh _ _ e2, T912.up Sh, t2.up Sh, by omega, s2, s3, s4, s5, rfl, Sh _ _ e3, Sh _ _ e4, t3.up Sh, hd, u1, u2, u3, fun H16 S16 => ⟨_, rfl, iteF ?_⟩⟩
  have Sh2 := Sh.trans S16
  refine ⟨_, rfl, _, rfl, (by show 2 ≤ sizeLine; decide), fun pn fn => ⟨_, rfl, .mk (heldD R9 R) (heldD R9 R) (.lst (SqL.of upd_same) (.cons (.lst (SqL.of (Same.new fn _ _ (Sh2 _ _ e912))) (rdTab ((T912.up Sh2).up (Same.new fn)))) (.cons (.lst (SqL.of (Same.new fn _ _ (Sh2 _ _ e2))) (rdTab ((t2.up Sh2).up (Same.new fn)))) .nil))) (.lst (SqL.of (Same.new fn _ _ (S16 _ _ eh))) (.cons (.lst (SqL.of (Same.new fn _ _ (S16 _ _ eca2))) (rdTab ((tca2.up S16).up (Same.new fn)))) (.cons (.lst (SqL.of (Same.new fn _ _ (S16 _ _ ecb2))) (rdTab ((tcb2.up S16).up (Same.new fn)))) .nil))) (held_shaped _ _) (held_shaped _ _) ?_⟩⟩
  rw [held_eqv]
  refine ⟨_, rfl, iteF ?_⟩
  have S17 := (S12.trans Sh2).trans (Same.new (o := .lst [.ref l9, .ref lr]) fn)
  generalize upd H16 pn (.lst [.ref l9, .ref lr]) = H17 at *
  have B17 := B2.up (S511.trans S17)
  have e717 := S17 _ _ e711
  have F717 := F711.up S17
  obtain ⟨a0, ha0, at0⟩ := refs_at0 (as := as7) (by rw [F717.len]; omega)
  obtain ⟨r0, hr0, ea0⟩ := F717.get ha0
  have hm0 := List.mem_of_getElem? hr0
  have hn0 := List.getElem?_eq_getElem (l := r0) (i := 0) (by rw [(f7 r0 hm0).1]; omega)
  generalize r0[0]'_ = n0 at hn0
  have at00 : atI (r0.map V.int) 0 = some (.int n0) := atI_nat (j := 0) (by rw [List.getElem?_map, hn0]; rfl)
  have ft0 := (f7 r0 hm0).2 n0 (List.mem_of_getElem? hn0)
  have one : ∀ a : V, [a].length ≤ sizeLine := fun _ => by show 1 ≤ sizeLine; decide
  have two : ∀ a b : V, [a, b].length ≤ sizeLine := fun _ _ => by show 2 ≤ sizeLine; decide
  refine ⟨_, rfl, _, rfl, l7, _, _, _, rfl, rfl, SqL.of e717, at0, a0, _, _, _, rfl, rfl, SqL.of ea0, at00, _, _, rfl, kept, spare, n0, B17, rfl, fun lf H18 S18 hlf elf => ⟨one _, fun q1 fq1 => ⟨q1, 2, _, rfl, rfl, upd_same, by decide, by decide, (by show 2 ≤ sizeLine; decide), fun q2 fq2 => ?_⟩⟩⟩
  have U1 := (Same.new (o := .lst [.ref lf]) fq1).trans (Same.new (o := .lst (List.replicate (2 : Int).toNat [V.ref lf]).flatten) fq2)
  have S19 := S18.trans U1
  have elf19 := U1 _ _ elf
  have eq2 : upd (upd H18 q1 (.lst [.ref lf])) q2 (.lst (List.replicate (2 : Int).toNat [V.ref lf]).flatten) q2 = some (.lst ([lf, lf].map V.ref)) := upd_same
  generalize upd (upd H18 q1 (.lst [.ref lf])) q2 (.lst (List.replicate (2 : Int).toNat [V.ref lf]).flatten) = H19 at *
  refine ⟨_, rfl, _, rfl, l7, _, _, _, rfl, rfl, SqL.of (S19 _ _ e717), at0, a0, _, _, _, rfl, rfl, SqL.of (S19 _ _ ea0), at00, one _, fun p1 fp1 => ⟨p1, 2, _, rfl, rfl, upd_same, by decide, by decide, (by show 2 ≤ sizeLine; decide), fun p2 fp2 => ?_⟩⟩
  have V1 := (Same.new (o := .lst [.int n0]) fp1).trans (Same.new (o := .lst (List.replicate (2 : Int).toNat [V.int n0]).flatten) fp2)
  have ep2 : upd (upd H19 p1 (.lst [.int n0])) p2 (.lst (List.replicate (2 : Int).toNat [V.int n0]).flatten) p2 = some (.lst ([n0, n0].map V.int)) := upd_same
  generalize upd (upd H19 p1 (.lst [.int n0])) p2 (.lst (List.replicate (2 : Int).toNat [V.int n0]).flatten) = H20 at *
  refine ⟨one _, fun p3 fp3 => ⟨p3, 2, _, rfl, rfl, upd_same, by decide, by decide, (by show 2 ≤ sizeLine; decide), fun p4 fp4 => ?_⟩⟩
  have V2 := (Same.new (o := .lst [.ref p2]) fp3).trans (Same.new (o := .lst (List.replicate (2 : Int).toNat [V.ref p2]).flatten) fp4)
  have ep4 : upd (upd H20 p3 (.lst [.ref p2])) p4 (.lst (List.replicate (2 : Int).toNat [V.ref p2]).flatten) p4 = some (.lst ([p2, p2].map V.ref)) := upd_same
  have ep22 := V2 _ _ ep2
  have S21 := (S19.trans V1).trans V2
  have V12 := V1.trans V2
  generalize upd (upd H20 p3 (.lst [.ref p2])) p4 (.lst (List.replicate (2 : Int).toNat [V.ref p2]).flatten) = H21 at *
  refine ⟨_, rfl, l7, _, _, _, rfl, rfl, SqL.of (S21 _ _ e717), at0, a0, _, _, _, rfl, rfl, SqL.of (S21 _ _ ea0), at00, one _, fun p5 fp5 => ⟨p5, 2, _, rfl, rfl, upd_same, by decide, by decide, (by show 2 ≤ sizeLine; decide), fun p6 fp6 => ?_⟩⟩
  have V3 := (Same.new (o := .lst [.int n0]) fp5).trans (Same.new (o := .lst (List.replicate (2 : Int).toNat [V.int n0]).flatten) fp6)
  have ep6 : upd (upd H21 p5 (.lst [.int n0])) p6 (.lst (List.replicate (2 : Int).toNat [V.int n0]).flatten) p6 = some (.lst ([n0, n0].map V.int)) := upd_same
  generalize upd (upd H21 p5 (.lst [.int n0])) p6 (.lst (List.replicate (2 : Int).toNat [V.int n0]).flatten) = H22 at *
  refine ⟨one _, fun p7 fp7 => ⟨p7, 2, _, rfl, rfl, upd_same, by decide, by decide, (by show 2 ≤ sizeLine; decide), fun p8 fp8 => ?_⟩⟩
  have V4 := (Same.new (o := .lst [.ref p6]) fp7).trans (Same.new (o := .lst (List.replicate (2 : Int).toNat [V.ref p6]).flatten) fp8)
  have ep8 : upd (upd H22 p7 (.lst [.ref p6])) p8 (.lst (List.replicate (2 : Int).toNat [V.ref p6]).flatten) p8 = some (.lst ([p6, p6].map V.ref)) := upd_same
  have ep62 := V4 _ _ ep6
  have V34 := V3.trans V4
  generalize upd (upd H22 p7 (.lst [.ref p6])) p8 (.lst (List.replicate (2 : Int).toNat [V.ref p6]).flatten) = H23 at *
  refine ⟨by decide, fun lw fw => ?_⟩
  have VW := Same.new (o := .lst []) fw
  have W34 := V34.trans VW
  have eqN : ∀ r ∈ [[n0, n0], [n0, n0]], r = [n0, n0] := fun r hr' => by simpa using hr'
  have rN : ∀ r ∈ [[n0, n0], [n0, n0]], r.length = 2 := fun r hr' => by rw [eqN r hr']; rfl
  have fN : ∀ r ∈ [[n0, n0], [n0, n0]], ∀ x ∈ r, Fits kept x := fun r hr' x hx => by
    rw [eqN r hr'] at hx
    have : x = n0 := by simpa using hx
    rw [this]; exact ft0
  have S23 := (S21.trans W34)
  have B23 := B17.up S23
  refine ⟨_, _, _, _, rfl, kept, spare, p4, p8, lw, [p2, p2], [p6, p6], [[n0, n0], [n0, n0]], [[n0, n0], [n0, n0]], [], B23, rfl, W34 _ _ ep4, .cons (W34 _ _ ep22) (.cons (W34 _ _ ep22) .nil), rfl, VW _ _ ep8, .cons (VW _ _ ep62) (.cons (VW _ _ ep62) .nil), rfl, upd_same, (by show 0 ≤ 2; decide), rN, rN, (by show 1 ≤ 2; decide), (by show 2 ≤ 20; decide), (by show 1 ≤ 2; decide), (by show 2 ≤ 20; decide), (by show 1 ≤ 2; decide), (by show 2 ≤ 20; decide), fN, fN, fun z2 fss2 PD2 td2 ld2 rws2 bss2 H24 S24 etd2 eld2 TD2 => ?_⟩
  obtain ⟨v1, v2, v3⟩ := PD2.sizes (by show 2 ≤ 20; decide) (by show 1 ≤ 2; decide) (by show 2 ≤ 20; decide)
  refine ⟨_, rfl, _, rfl, two _ _, fun lt flt => ?_⟩
  have NT := Same.new (o := .lst [.ref q2, .ref q2]) flt
  have elt : upd H24 lt (.lst [.ref q2, .ref q2]) lt = some (.lst ([q2, q2].map V.ref)) := upd_same
  have U25 := ((V12.trans W34).trans S24).trans NT
  have S25 := (S23.trans S24).trans NT
  generalize upd H24 lt (.lst [.ref q2, .ref q2]) = H25 at *
  have B25 := B17.up S25
  have FL : Figs H25 [lf, lf] [rests (kept ++ spare) n0, rests (kept ++ spare) n0] := .cons (U25 _ _ elf19) (.cons (U25 _ _ elf19) .nil)
  have TL : Tab H25 [q2, q2] [[lf, lf], [lf, lf]] [[rests (kept ++ spare) n0, rests (kept ++ spare) n0], [rests (kept ++ spare) n0, rests (kept ++ spare) n0]] := .cons (U25 _ _ eq2) FL (.cons (U25 _ _ eq2) FL .nil)
  have rR : ∀ r ∈ [[rests (kept ++ spare) n0, rests (kept ++ spare) n0], [rests (kept ++ spare) n0, rests (kept ++ spare) n0]], r.length = 2 := fun r hr' => by
    have : r = [rests (kept ++ spare) n0, rests (kept ++ spare) n0] := by simpa using hr'
    rw [this]; rfl
  have WN : RowW kept spare ([[n0, n0], [n0, n0]] : List (List Int)).flatten ([[rests (kept ++ spare) n0, rests (kept ++ spare) n0], [rests (kept ++ spare) n0, rests (kept ++ spare) n0]] : List (List (List Int))).flatten "" := ⟨rfl, (fun x hx => by
    obtain ⟨r, hr', hx⟩ := List.mem_flatten.mp hx
    exact fN r hr' x hx), .inl ⟨rfl, rfl⟩⟩
  refine ⟨_, rfl, _, rfl, _, rfl, _, rfl, _, _, _, _, rfl, kept, spare, lt, lt, [q2, q2], [q2, q2], [[lf, lf], [lf, lf]], [[lf, lf], [lf, lf]], _, _, td2, ld2, z2, rws2, bss2, fss2, B25, rfl, rfl, elt, elt, TL, TL, (by show 2 ≤ 20; decide), (by show 1 ≤ 2; decide), (by show 2 ≤ 20; decide), (fun r hr' => by rw [rR r hr']; decide), (fun r hr' => by rw [rR r hr']; decide), rfl, NT _ _ etd2, NT _ _ eld2, TD2.up NT, (fun z' fss' D => due_eq gb (N1 := [[n0, n0], [n0, n0]]) (N2 := [[n0, n0], [n0, n0]]) rfl rfl ⟨rR, rR⟩ WN WN D PD2.more), v1, v2, v3, fun H26 S26 => ⟨_, rfl, iteF ?_⟩⟩
  have S26' := S25.trans S26
  refine ⟨_, rfl, _, rfl, _, rfl, l7, _, _, _, rfl, rfl, SqL.of (S26' _ _ e717), at0, a0, _, _, _, rfl, rfl, SqL.of (S26' _ _ ea0), at00, _, _, rfl, kept, spare, n0, B25.up S26, rfl, fun lg H27 S27 hlg elg => ⟨one _, fun q3 fq3 => ⟨q3, 2, _, rfl, rfl, upd_same, by decide, by decide, (by show 2 ≤ sizeLine; decide), fun q4 fq4 => ?_⟩⟩⟩
  have U2 := (Same.new (o := .lst [.ref lg]) fq3).trans (Same.new (o := .lst (List.replicate (2 : Int).toNat [V.ref lg]).flatten) fq4)
  have elg2 := U2 _ _ elg
  have eq4 : upd (upd H27 q3 (.lst [.ref lg])) q4 (.lst (List.replicate (2 : Int).toNat [V.ref lg]).flatten) q4 = some (.lst ([lg, lg].map V.ref)) := upd_same
  generalize upd (upd H27 q3 (.lst [.ref lg])) q4 (.lst (List.replicate (2 : Int).toNat [V.ref lg]).flatten) = H28 at *
  refine ⟨one _, fun q5 fq5 => ⟨q5, 2, _, rfl, rfl, upd_same, by decide, by decide, (by show 2 ≤ sizeLine; decide), fun q6 fq6 => ?_⟩⟩
  have U3 := (Same.new (o := .lst [.ref q4]) fq5).trans (Same.new (o := .lst (List.replicate (2 : Int).toNat [V.ref q4]).flatten) fq6)
  have eq6 : upd (upd H28 q5 (.lst [.ref q4])) q6 (.lst (List.replicate (2 : Int).toNat [V.ref q4]).flatten) q6 = some (.lst ([q4, q4].map V.ref)) := upd_same
  have eq4' := U3 _ _ eq4
  have elg3 := U3 _ _ elg2
  have S29 := ((S26.trans S27).trans U2).trans U3
  generalize upd (upd H28 q5 (.lst [.ref q4])) q6 (.lst (List.replicate (2 : Int).toNat [V.ref q4]).flatten) = H29 at *
  have FM : Figs H29 [lg, lg] [rests (kept ++ spare) n0, rests (kept ++ spare) n0] := .cons elg3 (.cons elg3 .nil)
  have TM : Tab H29 [q4, q4] [[lg, lg], [lg, lg]] [[rests (kept ++ spare) n0, rests (kept ++ spare) n0], [rests (kept ++ spare) n0, rests (kept ++ spare) n0]] := .cons eq4' FM (.cons eq4' FM .nil)
  refine .mk _ _ (.lst (SqL.of (S29 _ _ elt)) (rdTab (TL.up S29))) (.lst (SqL.of eq6) (rdTab TM)) (tab_shaped _) (tab_shaped _) ?_
  rw [show ∀ R, (PyData.list (R.map rowDT)) = tabD R from fun _ => rfl, tab_eqv]
  refine ⟨_, rfl, iteF ⟨_, _, _, _, _, _, _, _, _, _, _, _, _, _, _, rfl, ((S511.trans S17).trans S25).trans S29⟩⟩
end
end K16
set_option Elab.async false
set_option linter.all false
set_option maxRecDepth 100000
set_option maxHeartbeats 4000000
namespace K16
open PySem L2 RF
theorem all_mk {l : PySem.W.OpenLaw} {w : World} {K : PySem.W.Frag} {h : Heap} {mg : Str → Option Value} {fa : Addr} (X : K.In h) (G : h.Ns mainGlobals mg) (hfa : mg "law" = some (.ref fa))
    {f0 : Addr} {od0 an0 : Option Addr} {sl0 : Array (Option Value)} {oc0 kV0 dc0 pm0 cd0 ct0 : Value}
    {f1 : Addr} {od1 an1 : Option Addr} {sl1 : Array (Option Value)} {oc1 kV1 dc1 pm1 cd1 ct1 : Value}
    {f2 : Addr} {od2 an2 : Option Addr} {sl2 : Array (Option Value)} {oc2 kV2 dc2 pm2 cd2 ct2 : Value}
    {f3 : Addr} {od3 an3 : Option Addr} {sl3 : Array (Option Value)} {oc3 kV3 dc3 pm3 cd3 ct3 : Value}
    {f4 : Addr} {od4 an4 : Option Addr} {sl4 : Array (Option Value)} {oc4 kV4 dc4 pm4 cd4 ct4 : Value}
    {f5 : Addr} {od5 an5 : Option Addr} {sl5 : Array (Option Value)} {oc5 kV5 dc5 pm5 cd5 ct5 : Value}
    {f6 : Addr} {od6 an6 : Option Addr} {sl6 : Array (Option Value)} {oc6 kV6 dc6 pm6 cd6 ct6 : Value}
    {f7 : Addr} {od7 an7 : Option Addr} {sl7 : Array (Option Value)} {oc7 kV7 dc7 pm7 cd7 ct7 : Value}
    {f8 : Addr} {od8 an8 : Option Addr} {sl8 : Array (Option Value)} {oc8 kV8 dc8 pm8 cd8 ct8 : Value}
    {f9 : Addr} {od9 an9 : Option Addr} {sl9 : Array (Option Value)} {oc9 kV9 dc9 pm9 cd9 ct9 : Value}
    {f10 : Addr} {od10 an10 : Option Addr} {sl10 : Array (Option Value)} {oc10 kV10 dc10 pm10 cd10 ct10 : Value}
    {f11 : Addr} {od11 an11 : Option Addr} {sl11 : Array (Option Value)} {oc11 kV11 dc11 pm11 cd11 ct11 : Value}
    {f12 : Addr} {od12 an12 : Option Addr} {sl12 : Array (Option Value)} {oc12 kV12 dc12 pm12 cd12 ct12 : Value}
    {f13 : Addr} {od13 an13 : Option Addr} {sl13 : Array (Option Value)} {oc13 kV13 dc13 pm13 cd13 ct13 : Value}
    {f14 : Addr} {od14 an14 : Option Addr} {sl14 : Array (Option Value)} {oc14 kV14 dc14 pm14 cd14 ct14 : Value}
    {f15 : Addr} {od15 an15 : Option Addr} {sl15 : Array (Option Value)} {oc15 kV15 dc15 pm15 cd15 ct15 : Value}
    {f16 : Addr} {od16 an16 : Option Addr} {sl16 : Array (Option Value)} {oc16 kV16 dc16 pm16 cd16 ct16 : Value}
    {f17 : Addr} {od17 an17 : Option Addr} {sl17 : Array (Option Value)} {oc17 kV17 dc17 pm17 cd17 ct17 : Value}
    {f18 : Addr} {od18 an18 : Option Addr} {sl18 : Array (Option Value)} {oc18 kV18 dc18 pm18 cd18 ct18 : Value}
    {f19 : Addr} {od19 an19 : Option Addr} {sl19 : Array (Option Value)} {oc19 kV19 dc19 pm19 cd19 ct19 : Value}
    {f20 : Addr} {od20 an20 : Option Addr} {sl20 : Array (Option Value)} {oc20 kV20 dc20 pm20 cd20 ct20 : Value}
    {f21 : Addr} {od21 an21 : Option Addr} {sl21 : Array (Option Value)} {oc21 kV21 dc21 pm21 cd21 ct21 : Value}
    {f22 : Addr} {od22 an22 : Option Addr} {sl22 : Array (Option Value)} {oc22 kV22 dc22 pm22 cd22 ct22 : Value}
    {f23 : Addr} {od23 an23 : Option Addr} {sl23 : Array (Option Value)} {oc23 kV23 dc23 pm23 cd23 ct23 : Value}
    {f24 : Addr} {od24 an24 : Option Addr} {sl24 : Array (Option Value)} {oc24 kV24 dc24 pm24 cd24 ct24 : Value}
    {f25 : Addr} {od25 an25 : Option Addr} {sl25 : Array (Option Value)} {oc25 kV25 dc25 pm25 cd25 ct25 : Value}
    {f26 : Addr} {od26 an26 : Option Addr} {sl26 : Array (Option Value)} {oc26 kV26 dc26 pm26 cd26 ct26 : Value}
    {f27 : Addr} {od27 an27 : Option Addr} {sl27 : Array (Option Value)} {oc27 kV27 dc27 pm27 cd27 ct27 : Value}
    {f28 : Addr} {od28 an28 : Option Addr} {sl28 : Array (Option Value)} {oc28 kV28 dc28 pm28 cd28 ct28 : Value}
    {f29 : Addr} {od29 an29 : Option Addr} {sl29 : Array (Option Value)} {oc29 kV29 dc29 pm29 cd29 ct29 : Value}
    {f30 : Addr} {od30 an30 : Option Addr} {sl30 : Array (Option Value)} {oc30 kV30 dc30 pm30 cd30 ct30 : Value}
    {f31 : Addr} {od31 an31 : Option Addr} {sl31 : Array (Option Value)} {oc31 kV31 dc31 pm31 cd31 ct31 : Value}
    {f32 : Addr} {od32 an32 : Option Addr} {sl32 : Array (Option Value)} {oc32 kV32 dc32 pm32 cd32 ct32 : Value}
    {f33 : Addr} {od33 an33 : Option Addr} {sl33 : Array (Option Value)} {oc33 kV33 dc33 pm33 cd33 ct33 : Value}
    {f34 : Addr} {od34 an34 : Option Addr} {sl34 : Array (Option Value)} {oc34 kV34 dc34 pm34 cd34 ct34 : Value}
    {f35 : Addr} {od35 an35 : Option Addr} {sl35 : Array (Option Value)} {oc35 kV35 dc35 pm35 cd35 ct35 : Value}
    {f36 : Addr} {od36 an36 : Option Addr} {sl36 : Array (Option Value)} {oc36 kV36 dc36 pm36 cd36 ct36 : Value}
    {f37 : Addr} {od37 an37 : Option Addr} {sl37 : Array (Option Value)} {oc37 kV37 dc37 pm37 cd37 ct37 : Value}
    {f38 : Addr} {od38 an38 : Option Addr} {sl38 : Array (Option Value)} {oc38 kV38 dc38 pm38 cd38 ct38 : Value}
    {f39 : Addr} {od39 an39 : Option Addr} {sl39 : Array (Option Value)} {oc39 kV39 dc39 pm39 cd39 ct39 : Value}
    {f40 : Addr} {od40 an40 : Option Addr} {sl40 : Array (Option Value)} {oc40 kV40 dc40 pm40 cd40 ct40 : Value}
    {cR : Addr}
    {cT : Addr}
    {cB : Addr}
    {cW : Addr}
    {cD : Addr}
    {cP : Addr}
    {cA : Addr}
    {cU : Addr}
    (a0 : PySem.W.nsIn K mainGlobals "divisors_of" = some (some (.ref f0))) (l0 : K.lookup f0 = some ⟨oc0, od0, .func (PySem.W.fnOf "divisors_of" "divisors_of" (defArgs s_divisors_of) (defBody s_divisors_of) (defScope s_divisors_of) .none kV0 dc0 pm0 an0 cd0 ct0), sl0⟩) (c0 : PySem.W.codeIn K cd0 "divisors_of" = true) (k0 : PySem.W.keepIn K (.ref f0) = true)
    (a1 : PySem.W.nsIn K mainGlobals "product_of" = some (some (.ref f1))) (l1 : K.lookup f1 = some ⟨oc1, od1, .func (PySem.W.fnOf "product_of" "product_of" (defArgs s_product_of) (defBody s_product_of) (defScope s_product_of) .none kV1 dc1 pm1 an1 cd1 ct1), sl1⟩) (c1 : PySem.W.codeIn K cd1 "product_of" = true) (k1 : PySem.W.keepIn K (.ref f1) = true)
    (a2 : PySem.W.nsIn K mainGlobals "span_of" = some (some (.ref f2))) (l2 : K.lookup f2 = some ⟨oc2, od2, .func (PySem.W.fnOf "span_of" "span_of" (defArgs s_span_of) (defBody s_span_of) (defScope s_span_of) .none kV2 dc2 pm2 an2 cd2 ct2), sl2⟩) (c2 : PySem.W.codeIn K cd2 "span_of" = true) (k2 : PySem.W.keepIn K (.ref f2) = true)
    (a3 : PySem.W.nsIn K mainGlobals "lowest" = some (some (.ref f3))) (l3 : K.lookup f3 = some ⟨oc3, od3, .func (PySem.W.fnOf "lowest" "lowest" (defArgs s_lowest) (defBody s_lowest) (defScope s_lowest) .none kV3 dc3 pm3 an3 cd3 ct3), sl3⟩) (c3 : PySem.W.codeIn K cd3 "lowest" = true) (k3 : PySem.W.keepIn K (.ref f3) = true)
    (a4 : PySem.W.nsIn K mainGlobals "highest" = some (some (.ref f4))) (l4 : K.lookup f4 = some ⟨oc4, od4, .func (PySem.W.fnOf "highest" "highest" (defArgs s_highest) (defBody s_highest) (defScope s_highest) .none kV4 dc4 pm4 an4 cd4 ct4), sl4⟩) (c4 : PySem.W.codeIn K cd4 "highest" = true) (k4 : PySem.W.keepIn K (.ref f4) = true)
    (a5 : PySem.W.nsIn K mainGlobals "fits" = some (some (.ref f5))) (l5 : K.lookup f5 = some ⟨oc5, od5, .func (PySem.W.fnOf "fits" "fits" (defArgs s_fits) (defBody s_fits) (defScope s_fits) .none kV5 dc5 pm5 an5 cd5 ct5), sl5⟩) (c5 : PySem.W.codeIn K cd5 "fits" = true) (k5 : PySem.W.keepIn K (.ref f5) = true)
    (a6 : PySem.W.nsIn K mainGlobals "figure_of" = some (some (.ref f6))) (l6 : K.lookup f6 = some ⟨oc6, od6, .func (PySem.W.fnOf "figure_of" "figure_of" (defArgs s_figure_of) (defBody s_figure_of) (defScope s_figure_of) .none kV6 dc6 pm6 an6 cd6 ct6), sl6⟩) (c6 : PySem.W.codeIn K cd6 "figure_of" = true) (k6 : PySem.W.keepIn K (.ref f6) = true)
    (a7 : PySem.W.nsIn K mainGlobals "number_of" = some (some (.ref f7))) (l7 : K.lookup f7 = some ⟨oc7, od7, .func (PySem.W.fnOf "number_of" "number_of" (defArgs s_number_of) (defBody s_number_of) (defScope s_number_of) .none kV7 dc7 pm7 an7 cd7 ct7), sl7⟩) (c7 : PySem.W.codeIn K cd7 "number_of" = true) (k7 : PySem.W.keepIn K (.ref f7) = true)
    (a8 : PySem.W.nsIn K mainGlobals "numbers_of" = some (some (.ref f8))) (l8 : K.lookup f8 = some ⟨oc8, od8, .func (PySem.W.fnOf "numbers_of" "numbers_of" (defArgs s_numbers_of) (defBody s_numbers_of) (defScope s_numbers_of) .none kV8 dc8 pm8 an8 cd8 ct8), sl8⟩) (c8 : PySem.W.codeIn K cd8 "numbers_of" = true) (k8 : PySem.W.keepIn K (.ref f8) = true)
    (a9 : PySem.W.nsIn K mainGlobals "is_right" = some (some (.ref f9))) (l9 : K.lookup f9 = some ⟨oc9, od9, .func (PySem.W.fnOf "is_right" "is_right" (defArgs s_is_right) (defBody s_is_right) (defScope s_is_right) .none kV9 dc9 pm9 an9 cd9 ct9), sl9⟩) (c9 : PySem.W.codeIn K cd9 "is_right" = true) (k9 : PySem.W.keepIn K (.ref f9) = true)
    (a10 : PySem.W.nsIn K mainGlobals "rests_of" = some (some (.ref f10))) (l10 : K.lookup f10 = some ⟨oc10, od10, .func (PySem.W.fnOf "rests_of" "rests_of" (defArgs s_rests_of) (defBody s_rests_of) (defScope s_rests_of) .none kV10 dc10 pm10 an10 cd10 ct10), sl10⟩) (c10 : PySem.W.codeIn K cd10 "rests_of" = true) (k10 : PySem.W.keepIn K (.ref f10) = true)
    (a11 : PySem.W.nsIn K mainGlobals "refuse_no_figures" = some (some (.ref f11))) (l11 : K.lookup f11 = some ⟨oc11, od11, .func (PySem.W.fnOf "refuse_no_figures" "refuse_no_figures" (defArgs s_refuse_no_figures) (defBody s_refuse_no_figures) (defScope s_refuse_no_figures) .none kV11 dc11 pm11 an11 cd11 ct11), sl11⟩) (c11 : PySem.W.codeIn K cd11 "refuse_no_figures" = true) (k11 : PySem.W.keepIn K (.ref f11) = true)
    (a12 : PySem.W.nsIn K mainGlobals "refuse_no_figure" = some (some (.ref f12))) (l12 : K.lookup f12 = some ⟨oc12, od12, .func (PySem.W.fnOf "refuse_no_figure" "refuse_no_figure" (defArgs s_refuse_no_figure) (defBody s_refuse_no_figure) (defScope s_refuse_no_figure) .none kV12 dc12 pm12 an12 cd12 ct12), sl12⟩) (c12 : PySem.W.codeIn K cd12 "refuse_no_figure" = true) (k12 : PySem.W.keepIn K (.ref f12) = true)
    (a13 : PySem.W.nsIn K mainGlobals "number_by_kept" = some (some (.ref f13))) (l13 : K.lookup f13 = some ⟨oc13, od13, .func (PySem.W.fnOf "number_by_kept" "number_by_kept" (defArgs s_number_by_kept) (defBody s_number_by_kept) (defScope s_number_by_kept) .none kV13 dc13 pm13 an13 cd13 ct13), sl13⟩) (c13 : PySem.W.codeIn K cd13 "number_by_kept" = true) (k13 : PySem.W.keepIn K (.ref f13) = true)
    (a14 : PySem.W.nsIn K mainGlobals "number_by_rests" = some (some (.ref f14))) (l14 : K.lookup f14 = some ⟨oc14, od14, .func (PySem.W.fnOf "number_by_rests" "number_by_rests" (defArgs s_number_by_rests) (defBody s_number_by_rests) (defScope s_number_by_rests) .none kV14 dc14 pm14 an14 cd14 ct14), sl14⟩) (c14 : PySem.W.codeIn K cd14 "number_by_rests" = true) (k14 : PySem.W.keepIn K (.ref f14) = true)
    (a15 : PySem.W.nsIn K mainGlobals "inverse" = some (some (.ref f15))) (l15 : K.lookup f15 = some ⟨oc15, od15, .func (PySem.W.fnOf "inverse" "inverse" (defArgs s_inverse) (defBody s_inverse) (defScope s_inverse) .none kV15 dc15 pm15 an15 cd15 ct15), sl15⟩) (c15 : PySem.W.codeIn K cd15 "inverse" = true) (k15 : PySem.W.keepIn K (.ref f15) = true)
    (a16 : PySem.W.nsIn K mainGlobals "table_product" = some (some (.ref f16))) (l16 : K.lookup f16 = some ⟨oc16, od16, .func (PySem.W.fnOf "table_product" "table_product" (defArgs s_table_product) (defBody s_table_product) (defScope s_table_product) .none kV16 dc16 pm16 an16 cd16 ct16), sl16⟩) (c16 : PySem.W.codeIn K cd16 "table_product" = true) (k16 : PySem.W.keepIn K (.ref f16) = true)
    (a17 : PySem.W.nsIn K mainGlobals "refuse_unlike_tables" = some (some (.ref f17))) (l17 : K.lookup f17 = some ⟨oc17, od17, .func (PySem.W.fnOf "refuse_unlike_tables" "refuse_unlike_tables" (defArgs s_refuse_unlike_tables) (defBody s_refuse_unlike_tables) (defScope s_refuse_unlike_tables) .none kV17 dc17 pm17 an17 cd17 ct17), sl17⟩) (c17 : PySem.W.codeIn K cd17 "refuse_unlike_tables" = true) (k17 : PySem.W.keepIn K (.ref f17) = true)
    (a18 : PySem.W.nsIn K mainGlobals "figures_in" = some (some (.ref f18))) (l18 : K.lookup f18 = some ⟨oc18, od18, .func (PySem.W.fnOf "figures_in" "figures_in" (defArgs s_figures_in) (defBody s_figures_in) (defScope s_figures_in) .none kV18 dc18 pm18 an18 cd18 ct18), sl18⟩) (c18 : PySem.W.codeIn K cd18 "figures_in" = true) (k18 : PySem.W.keepIn K (.ref f18) = true)
    (a19 : PySem.W.nsIn K mainGlobals "columns_of" = some (some (.ref f19))) (l19 : K.lookup f19 = some ⟨oc19, od19, .func (PySem.W.fnOf "columns_of" "columns_of" (defArgs s_columns_of) (defBody s_columns_of) (defScope s_columns_of) .none kV19 dc19 pm19 an19 cd19 ct19), sl19⟩) (c19 : PySem.W.codeIn K cd19 "columns_of" = true) (k19 : PySem.W.keepIn K (.ref f19) = true)
    (a20 : PySem.W.nsIn K mainGlobals "told_row" = some (some (.ref f20))) (l20 : K.lookup f20 = some ⟨oc20, od20, .func (PySem.W.fnOf "told_row" "told_row" (defArgs s_told_row) (defBody s_told_row) (defScope s_told_row) .none kV20 dc20 pm20 an20 cd20 ct20), sl20⟩) (c20 : PySem.W.codeIn K cd20 "told_row" = true) (k20 : PySem.W.keepIn K (.ref f20) = true)
    (a21 : PySem.W.nsIn K mainGlobals "sum_of_products" = some (some (.ref f21))) (l21 : K.lookup f21 = some ⟨oc21, od21, .func (PySem.W.fnOf "sum_of_products" "sum_of_products" (defArgs s_sum_of_products) (defBody s_sum_of_products) (defScope s_sum_of_products) .none kV21 dc21 pm21 an21 cd21 ct21), sl21⟩) (c21 : PySem.W.codeIn K cd21 "sum_of_products" = true) (k21 : PySem.W.keepIn K (.ref f21) = true)
    (a22 : PySem.W.nsIn K mainGlobals "_law_cell_at" = some (some (.ref f22))) (l22 : K.lookup f22 = some ⟨oc22, od22, .func (PySem.W.fnOf "_law_cell_at" "_law_cell_at" (defArgs s__law_cell_at) (defBody s__law_cell_at) (defScope s__law_cell_at) .none kV22 dc22 pm22 an22 cd22 ct22), sl22⟩) (c22 : PySem.W.codeIn K cd22 "_law_cell_at" = true) (k22 : PySem.W.keepIn K (.ref f22) = true)
    (a23 : PySem.W.nsIn K mainGlobals "_law_mixed" = some (some (.ref f23))) (l23 : K.lookup f23 = some ⟨oc23, od23, .func (PySem.W.fnOf "_law_mixed" "_law_mixed" (defArgs s__law_mixed) (defBody s__law_mixed) (defScope s__law_mixed) .none kV23 dc23 pm23 an23 cd23 ct23), sl23⟩) (c23 : PySem.W.codeIn K cd23 "_law_mixed" = true) (k23 : PySem.W.keepIn K (.ref f23) = true)
    (a24 : PySem.W.nsIn K mainGlobals "_law_base_by" = some (some (.ref f24))) (l24 : K.lookup f24 = some ⟨oc24, od24, .func (PySem.W.fnOf "_law_base_by" "_law_base_by" (defArgs s__law_base_by) (defBody s__law_base_by) (defScope s__law_base_by) .none kV24 dc24 pm24 an24 cd24 ct24), sl24⟩) (c24 : PySem.W.codeIn K cd24 "_law_base_by" = true) (k24 : PySem.W.keepIn K (.ref f24) = true)
    (a25 : PySem.W.nsIn K mainGlobals "_law_any_base" = some (some (.ref f25))) (l25 : K.lookup f25 = some ⟨oc25, od25, .func (PySem.W.fnOf "_law_any_base" "_law_any_base" (defArgs s__law_any_base) (defBody s__law_any_base) (defScope s__law_any_base) .none kV25 dc25 pm25 an25 cd25 ct25), sl25⟩) (c25 : PySem.W.codeIn K cd25 "_law_any_base" = true) (k25 : PySem.W.keepIn K (.ref f25) = true)
    (a26 : PySem.W.nsIn K mainGlobals "_law_span" = some (some (.ref f26))) (l26 : K.lookup f26 = some ⟨oc26, od26, .func (PySem.W.fnOf "_law_span" "_law_span" (defArgs s__law_span) (defBody s__law_span) (defScope s__law_span) .none kV26 dc26 pm26 an26 cd26 ct26), sl26⟩) (c26 : PySem.W.codeIn K cd26 "_law_span" = true) (k26 : PySem.W.keepIn K (.ref f26) = true)
    (a27 : PySem.W.nsIn K mainGlobals "_law_fitting" = some (some (.ref f27))) (l27 : K.lookup f27 = some ⟨oc27, od27, .func (PySem.W.fnOf "_law_fitting" "_law_fitting" (defArgs s__law_fitting) (defBody s__law_fitting) (defScope s__law_fitting) .none kV27 dc27 pm27 an27 cd27 ct27), sl27⟩) (c27 : PySem.W.codeIn K cd27 "_law_fitting" = true) (k27 : PySem.W.keepIn K (.ref f27) = true)
    (a28 : PySem.W.nsIn K mainGlobals "_law_figure" = some (some (.ref f28))) (l28 : K.lookup f28 = some ⟨oc28, od28, .func (PySem.W.fnOf "_law_figure" "_law_figure" (defArgs s__law_figure) (defBody s__law_figure) (defScope s__law_figure) .none kV28 dc28 pm28 an28 cd28 ct28), sl28⟩) (c28 : PySem.W.codeIn K cd28 "_law_figure" = true) (k28 : PySem.W.keepIn K (.ref f28) = true)
    (a29 : PySem.W.nsIn K mainGlobals "_law_same" = some (some (.ref f29))) (l29 : K.lookup f29 = some ⟨oc29, od29, .func (PySem.W.fnOf "_law_same" "_law_same" (defArgs s__law_same) (defBody s__law_same) (defScope s__law_same) .none kV29 dc29 pm29 an29 cd29 ct29), sl29⟩) (c29 : PySem.W.codeIn K cd29 "_law_same" = true) (k29 : PySem.W.keepIn K (.ref f29) = true)
    (a30 : PySem.W.nsIn K mainGlobals "_law_class" = some (some (.ref f30))) (l30 : K.lookup f30 = some ⟨oc30, od30, .func (PySem.W.fnOf "_law_class" "_law_class" (defArgs s__law_class) (defBody s__law_class) (defScope s__law_class) .none kV30 dc30 pm30 an30 cd30 ct30), sl30⟩) (c30 : PySem.W.codeIn K cd30 "_law_class" = true) (k30 : PySem.W.keepIn K (.ref f30) = true)
    (a31 : PySem.W.nsIn K mainGlobals "_law_spoilt" = some (some (.ref f31))) (l31 : K.lookup f31 = some ⟨oc31, od31, .func (PySem.W.fnOf "_law_spoilt" "_law_spoilt" (defArgs s__law_spoilt) (defBody s__law_spoilt) (defScope s__law_spoilt) .none kV31 dc31 pm31 an31 cd31 ct31), sl31⟩) (c31 : PySem.W.codeIn K cd31 "_law_spoilt" = true) (k31 : PySem.W.keepIn K (.ref f31) = true)
    (a32 : PySem.W.nsIn K mainGlobals "_law_fits" = some (some (.ref f32))) (l32 : K.lookup f32 = some ⟨oc32, od32, .func (PySem.W.fnOf "_law_fits" "_law_fits" (defArgs s__law_fits) (defBody s__law_fits) (defScope s__law_fits) .none kV32 dc32 pm32 an32 cd32 ct32), sl32⟩) (c32 : PySem.W.codeIn K cd32 "_law_fits" = true) (k32 : PySem.W.keepIn K (.ref f32) = true)
    (a33 : PySem.W.nsIn K mainGlobals "_law_due" = some (some (.ref f33))) (l33 : K.lookup f33 = some ⟨oc33, od33, .func (PySem.W.fnOf "_law_due" "_law_due" (defArgs s__law_due) (defBody s__law_due) (defScope s__law_due) .none kV33 dc33 pm33 an33 cd33 ct33), sl33⟩) (c33 : PySem.W.codeIn K cd33 "_law_due" = true) (k33 : PySem.W.keepIn K (.ref f33) = true)
    (a34 : PySem.W.nsIn K mainGlobals "_law_asked" = some (some (.ref f34))) (l34 : K.lookup f34 = some ⟨oc34, od34, .func (PySem.W.fnOf "_law_asked" "_law_asked" (defArgs s__law_asked) (defBody s__law_asked) (defScope s__law_asked) .none kV34 dc34 pm34 an34 cd34 ct34), sl34⟩) (c34 : PySem.W.codeIn K cd34 "_law_asked" = true) (k34 : PySem.W.keepIn K (.ref f34) = true)
    (a35 : PySem.W.nsIn K mainGlobals "_law_table" = some (some (.ref f35))) (l35 : K.lookup f35 = some ⟨oc35, od35, .func (PySem.W.fnOf "_law_table" "_law_table" (defArgs s__law_table) (defBody s__law_table) (defScope s__law_table) .none kV35 dc35 pm35 an35 cd35 ct35), sl35⟩) (c35 : PySem.W.codeIn K cd35 "_law_table" = true) (k35 : PySem.W.keepIn K (.ref f35) = true)
    (a36 : PySem.W.nsIn K mainGlobals "_law_figures" = some (some (.ref f36))) (l36 : K.lookup f36 = some ⟨oc36, od36, .func (PySem.W.fnOf "_law_figures" "_law_figures" (defArgs s__law_figures) (defBody s__law_figures) (defScope s__law_figures) .none kV36 dc36 pm36 an36 cd36 ct36), sl36⟩) (c36 : PySem.W.codeIn K cd36 "_law_figures" = true) (k36 : PySem.W.keepIn K (.ref f36) = true)
    (a37 : PySem.W.nsIn K mainGlobals "_law_product_due" = some (some (.ref f37))) (l37 : K.lookup f37 = some ⟨oc37, od37, .func (PySem.W.fnOf "_law_product_due" "_law_product_due" (defArgs s__law_product_due) (defBody s__law_product_due) (defScope s__law_product_due) .none kV37 dc37 pm37 an37 cd37 ct37), sl37⟩) (c37 : PySem.W.codeIn K cd37 "_law_product_due" = true) (k37 : PySem.W.keepIn K (.ref f37) = true)
    (a38 : PySem.W.nsIn K mainGlobals "_law_apart" = some (some (.ref f38))) (l38 : K.lookup f38 = some ⟨oc38, od38, .func (PySem.W.fnOf "_law_apart" "_law_apart" (defArgs s__law_apart) (defBody s__law_apart) (defScope s__law_apart) .none kV38 dc38 pm38 an38 cd38 ct38), sl38⟩) (c38 : PySem.W.codeIn K cd38 "_law_apart" = true) (k38 : PySem.W.keepIn K (.ref f38) = true)
    (a39 : PySem.W.nsIn K mainGlobals "_law_right" = some (some (.ref f39))) (l39 : K.lookup f39 = some ⟨oc39, od39, .func (PySem.W.fnOf "_law_right" "_law_right" (defArgs s__law_right) (defBody s__law_right) (defScope s__law_right) .none kV39 dc39 pm39 an39 cd39 ct39), sl39⟩) (c39 : PySem.W.codeIn K cd39 "_law_right" = true) (k39 : PySem.W.keepIn K (.ref f39) = true)
    (a40 : PySem.W.nsIn K mainGlobals "law" = some (some (.ref f40))) (l40 : K.lookup f40 = some ⟨oc40, od40, .func (PySem.W.fnOf "law" "law" (defArgs s_law) (defBody s_law) (defScope s_law) .none kV40 dc40 pm40 an40 cd40 ct40), sl40⟩) (c40 : PySem.W.codeIn K cd40 "law" = true) (k40 : PySem.W.keepIn K (.ref f40) = true)
    (z0 : PySem.W.nsIn K mainGlobals "len" = some none)
    (z1 : PySem.W.nsIn K mainGlobals "isinstance" = some none)
    (z2 : PySem.W.nsIn K mainGlobals "sorted" = some none)
    (z3 : PySem.W.nsIn K mainGlobals "list" = some none)
    (z4 : PySem.W.nsIn K mainGlobals "tuple" = some none)
    (z5 : PySem.W.nsIn K mainGlobals "int" = some none)
    (z6 : PySem.W.nsIn K mainGlobals "bool" = some none)
    (z7 : PySem.W.nsIn K mainGlobals "zip" = some none)
    (z8 : PySem.W.nsIn K mainGlobals "all" = some none)
    (z9 : PySem.W.nsIn K mainGlobals "min" = some none)
    (z10 : PySem.W.nsIn K mainGlobals "max" = some none)
    (z11 : PySem.W.nsIn K mainGlobals "any" = some none)
    (z12 : PySem.W.nsIn K mainGlobals "range" = some none)
    (z13 : PySem.W.nsIn K mainGlobals "enumerate" = some none)
    (z14 : PySem.W.nsIn K mainGlobals "sum" = some none)
    (z15 : PySem.W.nsIn K mainGlobals "ValueError" = some none)
    (z16 : PySem.W.nsIn K mainGlobals "RestError" = some (some (.ref cR)))
    (z17 : PySem.W.nsIn K mainGlobals "TooGreat" = some (some (.ref cT)))
    (z18 : PySem.W.excIn K cT bmV "ValueError.__new__" = true)
    (z19 : PySem.W.nsIn K mainGlobals "BadFigure" = some (some (.ref cB)))
    (z20 : PySem.W.excIn K cB bmV "ValueError.__new__" = true)
    (z21 : PySem.W.nsIn K mainGlobals "Wrong" = some (some (.ref cW)))
    (z22 : PySem.W.excIn K cW bmV "ValueError.__new__" = true)
    (z23 : PySem.W.nsIn K mainGlobals "BadDivisor" = some (some (.ref cD)))
    (z24 : PySem.W.nsIn K mainGlobals "BadPlace" = some (some (.ref cP)))
    (z25 : PySem.W.nsIn K mainGlobals "BadBase" = some (some (.ref cA)))
    (z26 : PySem.W.nsIn K mainGlobals "Unlike" = some (some (.ref cU)))
    (z27 : PySem.W.excIn K cU bmV "ValueError.__new__" = true)
    (xsp : PySem.W.specialIn K (.builtin "object.__class__") "__get__" = some (some (.builtin "getset_descriptor.__get__")))
    (xtk : PySem.W.takesIn K (.builtin "object.__class__") = some true)
    (xga_cT : PySem.W.findIn K (.ref cT) "__getattribute__" = some (some (.builtin "BaseException.__getattribute__")))
    (xgt_cT : PySem.W.findIn K (.ref cT) "__getattr__" = some none)
    (xcl_cT : PySem.W.findIn K (.ref cT) "__class__" = some (some (.builtin "object.__class__")))
    (xmo_cT : PySem.W.mroIn K cT (.type "object") = some true)
    (xmb_cT : PySem.W.mroIn K cT (.type "BaseException") = some true)
    (xr_cT : PySem.W.exmOne K (.ref cT) (.ref cR) = some true)
    (xv_cT : PySem.W.kitOne K (.ref cT) (.type "ValueError") = some true)
    (xk0_cT : PySem.W.kitOne K (.ref cT) (.ref cT) = some true)
    (xk1_cT : PySem.W.kitOne K (.ref cT) (.ref cB) = some false)
    (xk2_cT : PySem.W.kitOne K (.ref cT) (.ref cW) = some false)
    (xk3_cT : PySem.W.kitOne K (.ref cT) (.ref cD) = some false)
    (xk4_cT : PySem.W.kitOne K (.ref cT) (.ref cP) = some false)
    (xk5_cT : PySem.W.kitOne K (.ref cT) (.ref cA) = some false)
    (xk6_cT : PySem.W.kitOne K (.ref cT) (.ref cU) = some false)
    (xga_cB : PySem.W.findIn K (.ref cB) "__getattribute__" = some (some (.builtin "BaseException.__getattribute__")))
    (xgt_cB : PySem.W.findIn K (.ref cB) "__getattr__" = some none)
    (xcl_cB : PySem.W.findIn K (.ref cB) "__class__" = some (some (.builtin "object.__class__")))
    (xmo_cB : PySem.W.mroIn K cB (.type "object") = some true)
    (xmb_cB : PySem.W.mroIn K cB (.type "BaseException") = some true)
    (xr_cB : PySem.W.exmOne K (.ref cB) (.ref cR) = some true)
    (xv_cB : PySem.W.kitOne K (.ref cB) (.type "ValueError") = some true)
    (xk0_cB : PySem.W.kitOne K (.ref cB) (.ref cT) = some false)
    (xk1_cB : PySem.W.kitOne K (.ref cB) (.ref cB) = some true)
    (xk2_cB : PySem.W.kitOne K (.ref cB) (.ref cW) = some false)
    (xk3_cB : PySem.W.kitOne K (.ref cB) (.ref cD) = some false)
    (xk4_cB : PySem.W.kitOne K (.ref cB) (.ref cP) = some false)
    (xk5_cB : PySem.W.kitOne K (.ref cB) (.ref cA) = some false)
    (xk6_cB : PySem.W.kitOne K (.ref cB) (.ref cU) = some false)
    (xga_cW : PySem.W.findIn K (.ref cW) "__getattribute__" = some (some (.builtin "BaseException.__getattribute__")))
    (xgt_cW : PySem.W.findIn K (.ref cW) "__getattr__" = some none)
    (xcl_cW : PySem.W.findIn K (.ref cW) "__class__" = some (some (.builtin "object.__class__")))
    (xmo_cW : PySem.W.mroIn K cW (.type "object") = some true)
    (xmb_cW : PySem.W.mroIn K cW (.type "BaseException") = some true)
    (xr_cW : PySem.W.exmOne K (.ref cW) (.ref cR) = some true)
    (xv_cW : PySem.W.kitOne K (.ref cW) (.type "ValueError") = some true)
    (xk0_cW : PySem.W.kitOne K (.ref cW) (.ref cT) = some false)
    (xk1_cW : PySem.W.kitOne K (.ref cW) (.ref cB) = some false)
    (xk2_cW : PySem.W.kitOne K (.ref cW) (.ref cW) = some true)
    (xk3_cW : PySem.W.kitOne K (.ref cW) (.ref cD) = some false)
    (xk4_cW : PySem.W.kitOne K (.ref cW) (.ref cP) = some false)
    (xk5_cW : PySem.W.kitOne K (.ref cW) (.ref cA) = some false)
    (xk6_cW : PySem.W.kitOne K (.ref cW) (.ref cU) = some false)
    (xga_cU : PySem.W.findIn K (.ref cU) "__getattribute__" = some (some (.builtin "BaseException.__getattribute__")))
    (xgt_cU : PySem.W.findIn K (.ref cU) "__getattr__" = some none)
    (xcl_cU : PySem.W.findIn K (.ref cU) "__class__" = some (some (.builtin "object.__class__")))
    (xmo_cU : PySem.W.mroIn K cU (.type "object") = some true)
    (xmb_cU : PySem.W.mroIn K cU (.type "BaseException") = some true)
    (xr_cU : PySem.W.exmOne K (.ref cU) (.ref cR) = some true)
    (xv_cU : PySem.W.kitOne K (.ref cU) (.type "ValueError") = some true)
    (xk0_cU : PySem.W.kitOne K (.ref cU) (.ref cT) = some false)
    (xk1_cU : PySem.W.kitOne K (.ref cU) (.ref cB) = some false)
    (xk2_cU : PySem.W.kitOne K (.ref cU) (.ref cW) = some false)
    (xk3_cU : PySem.W.kitOne K (.ref cU) (.ref cD) = some false)
    (xk4_cU : PySem.W.kitOne K (.ref cU) (.ref cP) = some false)
    (xk5_cU : PySem.W.kitOne K (.ref cU) (.ref cA) = some false)
    (xk6_cU : PySem.W.kitOne K (.ref cU) (.ref cU) = some true) :
    ∃ fd : FuncData, (∀ (s : Shared) (v : Value), BindsTo s fd ⟨[v], []⟩ [("_law_script", v)]) ∧ ∀ base : Heap, K.In base → base.Ns mainGlobals mg → FnOk l.prog w K mg base (CX1 l.prog w) 51 fa fd ["_law_script"] (sp_law K) := by
  have e := hfa.symm.trans (PySem.W.mg_of X G a40)
  cases e
  have T : Txt K mg cR cT cB cW cD cP cA cU := ⟨PySem.W.mg_none_of X G z0, PySem.W.mg_none_of X G z1, PySem.W.mg_none_of X G z2, PySem.W.mg_none_of X G z3, PySem.W.mg_none_of X G z4, PySem.W.mg_none_of X G z5, PySem.W.mg_none_of X G z6, PySem.W.mg_none_of X G z7, PySem.W.mg_none_of X G z8, PySem.W.mg_none_of X G z9, PySem.W.mg_none_of X G z10, PySem.W.mg_none_of X G z11, PySem.W.mg_none_of X G z12, PySem.W.mg_none_of X G z13, PySem.W.mg_none_of X G z14, PySem.W.mg_none_of X G z15, PySem.W.mg_of X G z16, PySem.W.mg_of X G z17, z18, PySem.W.mg_of X G z19, z20, PySem.W.mg_of X G z21, z22, PySem.W.mg_of X G z23, PySem.W.mg_of X G z24, PySem.W.mg_of X G z25, PySem.W.mg_of X G z26, z27⟩
  have D0 : Def K mg "divisors_of" s_divisors_of := def_mk X G a0 l0 c0 k0
  have D1 : Def K mg "product_of" s_product_of := def_mk X G a1 l1 c1 k1
  have D2 : Def K mg "span_of" s_span_of := def_mk X G a2 l2 c2 k2
  have D3 : Def K mg "lowest" s_lowest := def_mk X G a3 l3 c3 k3
  have D4 : Def K mg "highest" s_highest := def_mk X G a4 l4 c4 k4
  have D5 : Def K mg "fits" s_fits := def_mk X G a5 l5 c5 k5
  have D6 : Def K mg "figure_of" s_figure_of := def_mk X G a6 l6 c6 k6
  have D7 : Def K mg "number_of" s_number_of := def_mk X G a7 l7 c7 k7
  have D8 : Def K mg "numbers_of" s_numbers_of := def_mk X G a8 l8 c8 k8
  have D9 : Def K mg "is_right" s_is_right := def_mk X G a9 l9 c9 k9
  have D10 : Def K mg "rests_of" s_rests_of := def_mk X G a10 l10 c10 k10
  have D11 : Def K mg "refuse_no_figures" s_refuse_no_figures := def_mk X G a11 l11 c11 k11
  have D12 : Def K mg "refuse_no_figure" s_refuse_no_figure := def_mk X G a12 l12 c12 k12
  have D13 : Def K mg "number_by_kept" s_number_by_kept := def_mk X G a13 l13 c13 k13
  have D14 : Def K mg "number_by_rests" s_number_by_rests := def_mk X G a14 l14 c14 k14
  have D15 : Def K mg "inverse" s_inverse := def_mk X G a15 l15 c15 k15
  have D16 : Def K mg "table_product" s_table_product := def_mk X G a16 l16 c16 k16
  have D17 : Def K mg "refuse_unlike_tables" s_refuse_unlike_tables := def_mk X G a17 l17 c17 k17
  have D18 : Def K mg "figures_in" s_figures_in := def_mk X G a18 l18 c18 k18
  have D19 : Def K mg "columns_of" s_columns_of := def_mk X G a19 l19 c19 k19
  have D20 : Def K mg "told_row" s_told_row := def_mk X G a20 l20 c20 k20
  have D21 : Def K mg "sum_of_products" s_sum_of_products := def_mk X G a21 l21 c21 k21
  have D22 : Def K mg "_law_cell_at" s__law_cell_at := def_mk X G a22 l22 c22 k22
  have D23 : Def K mg "_law_mixed" s__law_mixed := def_mk X G a23 l23 c23 k23
  have D24 : Def K mg "_law_base_by" s__law_base_by := def_mk X G a24 l24 c24 k24
  have D25 : Def K mg "_law_any_base" s__law_any_base := def_mk X G a25 l25 c25 k25
  have D26 : Def K mg "_law_span" s__law_span := def_mk X G a26 l26 c26 k26
  have D27 : Def K mg "_law_fitting" s__law_fitting := def_mk X G a27 l27 c27 k27
  have D28 : Def K mg "_law_figure" s__law_figure := def_mk X G a28 l28 c28 k28
  have D29 : Def K mg "_law_same" s__law_same := def_mk X G a29 l29 c29 k29
  have D30 : Def K mg "_law_class" s__law_class := def_mk X G a30 l30 c30 k30
  have D31 : Def K mg "_law_spoilt" s__law_spoilt := def_mk X G a31 l31 c31 k31
  have D32 : Def K mg "_law_fits" s__law_fits := def_mk X G a32 l32 c32 k32
  have D33 : Def K mg "_law_due" s__law_due := def_mk X G a33 l33 c33 k33
  have D34 : Def K mg "_law_asked" s__law_asked := def_mk X G a34 l34 c34 k34
  have D35 : Def K mg "_law_table" s__law_table := def_mk X G a35 l35 c35 k35
  have D36 : Def K mg "_law_figures" s__law_figures := def_mk X G a36 l36 c36 k36
  have D37 : Def K mg "_law_product_due" s__law_product_due := def_mk X G a37 l37 c37 k37
  have D38 : Def K mg "_law_apart" s__law_apart := def_mk X G a38 l38 c38 k38
  have D39 : Def K mg "_law_right" s__law_right := def_mk X G a39 l39 c39 k39
  have FL := fun_mk (st := s_law) l40 c40 k40
  refine ⟨PySem.W.fnOf "law" "law" (defArgs s_law) (defBody s_law) (defScope s_law) .none kV40 dc40 pm40 an40 cd40 ct40, fun s v => .of_eq rfl, fun base _ _ => ?_⟩
  have G_cT : IsC K cR cT cB cW cD cP cA cU cT 0 := ⟨⟨xga_cT, xgt_cT, xcl_cT, xsp, xtk, xmo_cT, xmb_cT⟩, xr_cT, xv_cT, xk0_cT, xk1_cT, xk2_cT, xk3_cT, xk4_cT, xk5_cT, xk6_cT⟩
  have G_cB : IsC K cR cT cB cW cD cP cA cU cB 1 := ⟨⟨xga_cB, xgt_cB, xcl_cB, xsp, xtk, xmo_cB, xmb_cB⟩, xr_cB, xv_cB, xk0_cB, xk1_cB, xk2_cB, xk3_cB, xk4_cB, xk5_cB, xk6_cB⟩
  have G_cW : IsC K cR cT cB cW cD cP cA cU cW 2 := ⟨⟨xga_cW, xgt_cW, xcl_cW, xsp, xtk, xmo_cW, xmb_cW⟩, xr_cW, xv_cW, xk0_cW, xk1_cW, xk2_cW, xk3_cW, xk4_cW, xk5_cW, xk6_cW⟩
  have G_cU : IsC K cR cT cB cW cD cP cA cU cU 6 := ⟨⟨xga_cU, xgt_cU, xcl_cU, xsp, xtk, xmo_cU, xmb_cU⟩, xr_cU, xv_cU, xk0_cU, xk1_cU, xk2_cU, xk3_cU, xk4_cU, xk5_cU, xk6_cU⟩
  have GC : Cs K cR cT cB cW cD cP cA cU := ⟨G_cT, G_cB, G_cW, G_cU⟩
  have F0 := ok_divisors_of (P := l.prog) (w := w) (base := base) D0
  have F1 := ok_product_of (P := l.prog) (w := w) (base := base) D1
  have F2 := ok_span_of D2 F1
  have F3 := ok_lowest D3 F2
  have F4 := ok_highest D4 F2
  have F5 := ok_fits D5 F3 F4
  have F10 := ok_rests_of D10 F0
  have F6 := ok_figure_of D6 T F5 F10
  have F12 := ok_refuse D12 T F0
  have F15 := ok_inverse (P := l.prog) (w := w) (base := base) D15 40
  have F14 := ok_by_rests D14 T F15
  have F13 := ok_by_kept D13 T F14
  have F9 := ok_is_right D9 T F12 F13 F10
  have F7 := ok_number_of D7 T F9 F13
  have F11 := ok_refuse_all D11 F12
  have F8 := ok_numbers_of D8 F11 F7
  have F17 := ok_runl (P := l.prog) (w := w) (base := base) D17 T
  have F18 := ok_figsin (P := l.prog) (w := w) (base := base) D18
  have F19 := ok_cols (P := l.prog) (w := w) (base := base) D19 T
  have F21 := ok_dot (P := l.prog) (w := w) (base := base) D21 T
  have F20 := ok_trow D20 T F6 F21
  have F16 := ok_tprod D16 T F17 F11 F18 F8 F19 F20
  have F22 := ok_cell_at (P := l.prog) (w := w) (base := base) D22 T
  have F23 := ok_mixed (P := l.prog) (w := w) (base := base) D23
  have F24 := ok_base_by D24 T F23
  have F25 := ok_any_base D25 T F24
  have F26 := ok__law_span (P := l.prog) (w := w) (base := base) D26
  have F27 := ok_fitting D27 F26 F23
  have F28 := ok_law_figure (P := l.prog) (w := w) (base := base) D28
  have FS0 := ok_same0 (P := l.prog) (w := w) (base := base) D29
  have FS1 := ok_sameS D29 T FS0
  have FS2 := ok_sameS D29 T FS1
  have FS3 := ok_sameS D29 T FS2
  have F29 := ok_sameS D29 T FS3
  have F30 := ok_class (P := l.prog) (w := w) (base := base) D30 T
  have F31 := ok_spoiltW (P := l.prog) (w := w) (base := base) D31 T
  have F32 := ok_law_fits D32 F26
  have F33 := ok_due D33 F32 F28
  have F34 := ok_asked D34 T GC F16 F30
  have F35 := ok_ltab D35 T F23 F27 F32
  have F36 := ok_lfigT D36 T F28 F31
  have F37 := ok_pdue D37 T F33
  have F38 := ok_apart (P := l.prog) (w := w) (base := base) D38 T
  have F39 := ok_rightT D39 T F34 F29 F38
  exact FL.okX sc_law sp1_len (body_law T F25 F23 F22 F35 F36 F28 F37 F39 _)
theorem walk {l : PySem.W.OpenLaw} {q : Program} {loose : List Str} {XP : (Str → Option Value) → Heap → Prop} {YP : World → Heap → Prop} {d : DefRec} {K : Params → PySem.W.Frag} (hn : l.most = some 63) (hdf : d.params.defaults = [])
    (hY : ∀ (w : World) (h : Heap), YP w h → (K w.params).In h)
    (F : ∀ (w : World) (mg : Str → Option Value) (fa : Addr) (h : Heap), (K w.params).In h → h.Ns mainGlobals mg → mg d.name = some (.ref fa) →
      ∃ fd : FuncData, (∀ (s : Shared) (u : Value), BindsTo s fd ⟨[u], []⟩ [("_law_script", u)]) ∧ ∀ base : Heap, (K w.params).In base → base.Ns mainGlobals mg → FnOk l.prog w (K w.params) mg base (CX1 l.prog w) 51 fa fd ["_law_script"] (sp_law (K w.params))) :
    PySem.W.WalkO q loose XP YP l.row.toRowW d [] (fun f vs => PySem.call f vs) :=
  L2.walk_of (n := 63) (k := 51) (x := "_law_script") (CX := fun w => CX1 l.prog w) (sp := fun w => (sp_law (K w.params))) hn (by decide) hdf ⟨rfl, by decide, by decide⟩ hY F (fun _ _ a ns hl _ hS => ⟨_, rfl, a, ns, rfl, hS, hl, fun _ => rfl⟩) fun _ H s e s' => cx1_none H s e s'
end K16
open PySem PySem.W PyProof.Rows
theorem PySem.W.Fast.tw12150672475980970912 : True := trivial
theorem PySem.W.Fast.tw12221022186271277674 : True := trivial
theorem PySem.W.Fast.tw16210292078430333194 : True := trivial
theorem PySem.W.Fast.tw6861192582385522415 : True := trivial
set_option maxRecDepth 100000 in
set_option maxHeartbeats 0 in
theorem PySem.Challenge.cw_restfigures_k16_products_of_tables_holds : PySem.Challenge.rw_restfigures_k16_products_of_tables.Holds := by
  w_on; o_law; k_head; (case hw => w_witness2)
  k_fill
  refine K16.walk (l := PySem.Challenge.rw_restfigures_k16_products_of_tables) rfl rfl (fun w h Y => PySem.W.kIn_of Y) ?F
  case F =>
    intro w mg fa h KX G hmg
    refine' K16.all_mk KX G hmg ?a0 ?l0 ?c0 ?k0 ?a1 ?l1 ?c1 ?k1 ?a2 ?l2 ?c2 ?k2 ?a3 ?l3 ?c3 ?k3 ?a4 ?l4 ?c4 ?k4 ?a5 ?l5 ?c5 ?k5 ?a6 ?l6 ?c6 ?k6 ?a7 ?l7 ?c7 ?k7 ?a8 ?l8 ?c8 ?k8 ?a9 ?l9 ?c9 ?k9 ?a10 ?l10 ?c10 ?k10 ?a11 ?l11 ?c11 ?k11 ?a12 ?l12 ?c12 ?k12 ?a13 ?l13 ?c13 ?k13 ?a14 ?l14 ?c14 ?k14 ?a15 ?l15 ?c15 ?k15 ?a16 ?l16 ?c16 ?k16 ?a17 ?l17 ?c17 ?k17 ?a18 ?l18 ?c18 ?k18 ?a19 ?l19 ?c19 ?k19 ?a20 ?l20 ?c20 ?k20 ?a21 ?l21 ?c21 ?k21 ?a22 ?l22 ?c22 ?k22 ?a23 ?l23 ?c23 ?k23 ?a24 ?l24 ?c24 ?k24 ?a25 ?l25 ?c25 ?k25 ?a26 ?l26 ?c26 ?k26 ?a27 ?l27 ?c27 ?k27 ?a28 ?l28 ?c28 ?k28 ?a29 ?l29 ?c29 ?k29 ?a30 ?l30 ?c30 ?k30 ?a31 ?l31 ?c31 ?k31 ?a32 ?l32 ?c32 ?k32 ?a33 ?l33 ?c33 ?k33 ?a34 ?l34 ?c34 ?k34 ?a35 ?l35 ?c35 ?k35 ?a36 ?l36 ?c36 ?k36 ?a37 ?l37 ?c37 ?k37 ?a38 ?l38 ?c38 ?k38 ?a39 ?l39 ?c39 ?k39 ?a40 ?l40 ?c40 ?k40 ?z0 ?z1 ?z2 ?z3 ?z4 ?z5 ?z6 ?z7 ?z8 ?z9 ?z10 ?z11 ?z12 ?z13 ?z14 ?z15 ?z16 ?z17 ?z18 ?z19 ?z20 ?z21 ?z22 ?z23 ?z24 ?z25 ?z26 ?z27 ?xsp ?xtk ?xga_cT ?xgt_cT ?xcl_cT ?xmo_cT ?xmb_cT ?xr_cT ?xv_cT ?xk0_cT ?xk1_cT ?xk2_cT ?xk3_cT ?xk4_cT ?xk5_cT ?xk6_cT ?xga_cB ?xgt_cB ?xcl_cB ?xmo_cB ?xmb_cB ?xr_cB ?xv_cB ?xk0_cB ?xk1_cB ?xk2_cB ?xk3_cB ?xk4_cB ?xk5_cB ?xk6_cB ?xga_cW ?xgt_cW ?xcl_cW ?xmo_cW ?xmb_cW ?xr_cW ?xv_cW ?xk0_cW ?xk1_cW ?xk2_cW ?xk3_cW ?xk4_cW ?xk5_cW ?xk6_cW ?xga_cU ?xgt_cU ?xcl_cU ?xmo_cU ?xmb_cU ?xr_cU ?xv_cU ?xk0_cU ?xk1_cU ?xk2_cU ?xk3_cU ?xk4_cU ?xk5_cU ?xk6_cU
    (case a0 => k_is)
    (case l0 => k_is)
    (case c0 => k_is)
    (case k0 => k_is)
    (case a1 => k_is)
    (case l1 => k_is)
    (case c1 => k_is)
    (case k1 => k_is)
    (case a2 => k_is)
    (case l2 => k_is)
    (case c2 => k_is)
    (case k2 => k_is)
    (case a3 => k_is)
    (case l3 => k_is)
    (case c3 => k_is)
    (case k3 => k_is)
    (case a4 => k_is)
    (case l4 => k_is)
    (case c4 => k_is)
    (case k4 => k_is)
    (case a5 => k_is)
    (case l5 => k_is)
    (case c5 => k_is)
    (case k5 => k_is)
    (case a6 => k_is)
    (case l6 => k_is)
    (case c6 => k_is)
    (case k6 => k_is)
    (case a7 => k_is)
    (case l7 => k_is)
    (case c7 => k_is)
    (case k7 => k_is)
    (case a8 => k_is)
    (case l8 => k_is)
    (case c8 => k_is)
    (case k8 => k_is)
    (case a9 => k_is)
    (case l9 => k_is)
    (case c9 => k_is)
    (case k9 => k_is)
    (case a10 => k_is)
    (case l10 => k_is)
    (case c10 => k_is)
    (case k10 => k_is)
    (case a11 => k_is)
    (case l11 => k_is)
    (case c11 => k_is)
    (case k11 => k_is)
    (case a12 => k_is)
    (case l12 => k_is)
    (case c12 => k_is)
    (case k12 => k_is)
    (case a13 => k_is)
    (case l13 => k_is)
    (case c13 => k_is)
    (case k13 => k_is)
    (case a14 => k_is)
    (case l14 => k_is)
    (case c14 => k_is)
    (case k14 => k_is)
    (case a15 => k_is)
    (case l15 => k_is)
    (case c15 => k_is)
    (case k15 => k_is)
    (case a16 => k_is)
    (case l16 => k_is)
    (case c16 => k_is)
    (case k16 => k_is)
    (case a17 => k_is)
    (case l17 => k_is)
    (case c17 => k_is)
    (case k17 => k_is)
    (case a18 => k_is)
    (case l18 => k_is)
    (case c18 => k_is)
    (case k18 => k_is)
    (case a19 => k_is)
    (case l19 => k_is)
    (case c19 => k_is)
    (case k19 => k_is)
    (case a20 => k_is)
    (case l20 => k_is)
    (case c20 => k_is)
    (case k20 => k_is)
    (case a21 => k_is)
    (case l21 => k_is)
    (case c21 => k_is)
    (case k21 => k_is)
    (case a22 => k_is)
    (case l22 => k_is)
    (case c22 => k_is)
    (case k22 => k_is)
    (case a23 => k_is)
    (case l23 => k_is)
    (case c23 => k_is)
    (case k23 => k_is)
    (case a24 => k_is)
    (case l24 => k_is)
    (case c24 => k_is)
    (case k24 => k_is)
    (case a25 => k_is)
    (case l25 => k_is)
    (case c25 => k_is)
    (case k25 => k_is)
    (case a26 => k_is)
    (case l26 => k_is)
    (case c26 => k_is)
    (case k26 => k_is)
    (case a27 => k_is)
    (case l27 => k_is)
    (case c27 => k_is)
    (case k27 => k_is)
    (case a28 => k_is)
    (case l28 => k_is)
    (case c28 => k_is)
    (case k28 => k_is)
    (case a29 => k_is)
    (case l29 => k_is)
    (case c29 => k_is)
    (case k29 => k_is)
    (case a30 => k_is)
    (case l30 => k_is)
    (case c30 => k_is)
    (case k30 => k_is)
    (case a31 => k_is)
    (case l31 => k_is)
    (case c31 => k_is)
    (case k31 => k_is)
    (case a32 => k_is)
    (case l32 => k_is)
    (case c32 => k_is)
    (case k32 => k_is)
    (case a33 => k_is)
    (case l33 => k_is)
    (case c33 => k_is)
    (case k33 => k_is)
    (case a34 => k_is)
    (case l34 => k_is)
    (case c34 => k_is)
    (case k34 => k_is)
    (case a35 => k_is)
    (case l35 => k_is)
    (case c35 => k_is)
    (case k35 => k_is)
    (case a36 => k_is)
    (case l36 => k_is)
    (case c36 => k_is)
    (case k36 => k_is)
    (case a37 => k_is)
    (case l37 => k_is)
    (case c37 => k_is)
    (case k37 => k_is)
    (case a38 => k_is)
    (case l38 => k_is)
    (case c38 => k_is)
    (case k38 => k_is)
    (case a39 => k_is)
    (case l39 => k_is)
    (case c39 => k_is)
    (case k39 => k_is)
    (case a40 => k_is)
    (case l40 => k_is)
    (case c40 => k_is)
    (case k40 => k_is)
    (case z0 => k_is)
    (case z1 => k_is)
    (case z2 => k_is)
    (case z3 => k_is)
    (case z4 => k_is)
    (case z5 => k_is)
    (case z6 => k_is)
    (case z7 => k_is)
    (case z8 => k_is)
    (case z9 => k_is)
    (case z10 => k_is)
    (case z11 => k_is)
    (case z12 => k_is)
    (case z13 => k_is)
    (case z14 => k_is)
    (case z15 => k_is)
    (case z16 => k_is)
    (case z17 => k_is)
    (case z18 => k_exc)
    (case z19 => k_is)
    (case z20 => k_exc)
    (case z21 => k_is)
    (case z22 => k_exc)
    (case z23 => k_is)
    (case z24 => k_is)
    (case z25 => k_is)
    (case z26 => k_is)
    (case z27 => k_exc)
    (case xsp => k_is)
    (case xtk => k_is)
    (case xga_cT => k_is)
    (case xgt_cT => k_is)
    (case xcl_cT => k_is)
    (case xmo_cT => k_is)
    (case xmb_cT => k_is)
    (case xr_cT => kts_exm)
    (case xv_cT => kit_is)
    (case xk0_cT => kit_is)
    (case xk1_cT => kit_is)
    (case xk2_cT => kit_is)
    (case xk3_cT => kit_is)
    (case xk4_cT => kit_is)
    (case xk5_cT => kit_is)
    (case xk6_cT => kit_is)
    (case xga_cB => k_is)
    (case xgt_cB => k_is)
    (case xcl_cB => k_is)
    (case xmo_cB => k_is)
    (case xmb_cB => k_is)
    (case xr_cB => kts_exm)
    (case xv_cB => kit_is)
    (case xk0_cB => kit_is)
    (case xk1_cB => kit_is)
    (case xk2_cB => kit_is)
    (case xk3_cB => kit_is)
    (case xk4_cB => kit_is)
    (case xk5_cB => kit_is)
    (case xk6_cB => kit_is)
    (case xga_cW => k_is)
    (case xgt_cW => k_is)
    (case xcl_cW => k_is)
    (case xmo_cW => k_is)
    (case xmb_cW => k_is)
    (case xr_cW => kts_exm)
    (case xv_cW => kit_is)
    (case xk0_cW => kit_is)
    (case xk1_cW => kit_is)
    (case xk2_cW => kit_is)
    (case xk3_cW => kit_is)
    (case xk4_cW => kit_is)
    (case xk5_cW => kit_is)
    (case xk6_cW => kit_is)
    (case xga_cU => k_is)
    (case xgt_cU => k_is)
    (case xcl_cU => k_is)
    (case xmo_cU => k_is)
    (case xmb_cU => k_is)
    (case xr_cU => kts_exm)
    (case xv_cU => kit_is)
    (case xk0_cU => kit_is)
    (case xk1_cU => kit_is)
    (case xk2_cU => kit_is)
    (case xk3_cU => kit_is)
    (case xk4_cU => kit_is)
    (case xk5_cU => kit_is)
    (case xk6_cU => kit_is)
